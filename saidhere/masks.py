"""Sets of standings as masks: integers whose bit with the number of a standing tells whether it is in."""


def has_bit(mask, number):
    """Whether the bit with this number is in the mask."""
    return (mask >> number) & 1 == 1


def lowest(mask):
    """The number of the lowest bit of a mask that has one."""
    return (mask & -mask).bit_length() - 1


def bits_of(mask):
    """The numbers of the bits of a mask, ascending."""
    found = []
    rest = mask
    while rest:
        low = rest & -rest
        found.append(low.bit_length() - 1)
        rest = rest ^ low
    return found


def number_of_bits(mask):
    """How many bits a mask has."""
    return f"{mask:b}".count("1")


def mask_with(numbers):
    """The mask that has the bits with these numbers."""
    mask = 0
    for number in numbers:
        mask = mask | (1 << number)
    return mask


def mask_of(bits):
    """The mask of a list of True and False, the first one being for the bit 0."""
    mask = 0
    for number, bit in enumerate(bits):
        if bit:
            mask = mask | (1 << number)
    return mask


def united(mask, pictures):
    """The pictures of the bits of a mask, put together; a bit without one is left out."""
    whole = 0
    for number, picture in pictures.items():
        if has_bit(mask, number):
            whole = whole | picture
    return whole


def united_bits(mask, pictures):
    """The pictures of the bits of a mask, put together; each bit has one."""
    whole = 0
    for number in bits_of(mask):
        whole = whole | pictures[number]
    return whole


def spread(table, column):
    """A table of masks over standings, told over items instead, by the standing of each item."""
    pictures = {}
    for number, standing in enumerate(column):
        pictures[standing] = pictures.get(standing, 0) | (1 << number)
    return [tuple([united(mask, pictures) for mask in masks]) for masks in table]
