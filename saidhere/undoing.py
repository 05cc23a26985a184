"""Whether a layer leads no two rows to one row, and what then leads each row back."""

from saidhere.blurring import least_twin
from saidhere.decoding import decoded
from saidhere.errors import Blurred, Unlike
from saidhere.layers import least_layer, led_row
from saidhere.seams import each_led


def blurred(layer):
    """The least row that is led to the same row as a greater one, and the least such one; None in a clear layer.

    The least such row is the least of all that are led to that row.
    """
    small = least_layer(layer)
    row = least_twin(small)
    if row is None:
        return None
    target = led_row(small, row)
    found = []
    for told in each_led(small, target):
        found.append(told)
        if len(found) == 2:
            break
    return found[0], found[1]


def undone(layer):
    """The layer from the target to the alphabet that leads each row back to the row from which it comes."""
    if len(layer.target) != len(layer.alphabet):
        raise Unlike("letters")
    twins = blurred(layer)
    if twins is not None:
        raise Blurred(twins[0], twins[1])
    return least_layer(decoded(least_layer(layer)))
