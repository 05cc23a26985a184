"""The rows that are enough to judge several pairs together: no more of them than standings, and none too few."""

import unittest

from saidhere.freerows import INVERSES, PRIME, free_ahead, free_behind, rest_of, vector_of, widened
from tests.plainly import chance, counter, led, random_moves, rows


def rank(vectors):
    """The number of independent vectors modulo the prime, by plain elimination."""
    left = [list(vector) for vector in vectors]
    many = 0
    for at in range(len(left[0])):
        found = [vector for vector in left if vector[at] % PRIME]
        if not found:
            continue
        first = found[0]
        many += 1
        left = [vector for vector in left if vector is not first]
        for vector in left:
            times = vector[at] * pow(first[at], -1, PRIME)
            vector[:] = [(x - times * y) % PRIME for x, y in zip(vector, first)]
        if not left:
            break
    return many


class FreeRows(unittest.TestCase):
    def test_inverses(self):
        self.assertEqual(len(INVERSES), PRIME)
        for number in range(1, PRIME):
            self.assertEqual(number * INVERSES[number] % PRIME, 1)

    def test_vectors(self):
        self.assertEqual(vector_of(((0,) * 3, (0,) * 2), (2, 0)), [0, 0, 1, 1, 0])

    def test_basis(self):
        source = chance(30)
        for _ in range(50):
            basis = {}
            kept = []
            for _ in range(12):
                vector = [source.randrange(PRIME) * source.choice((0, 1)) for _ in range(7)]
                rest = rest_of(basis, vector)
                self.assertEqual(any(rest), rank(kept + [vector]) > len(kept))
                if any(rest):
                    kept.append(vector)
                    basis = widened(basis, rest)
                self.assertEqual(len(basis), len(kept))
                for at, told in basis.items():
                    self.assertEqual([told[other] for other in basis], [int(at == other) for other in basis])

    def test_rows(self):
        source = chance(31)
        for _ in range(25):
            alphabet = source.choice(("ab", "a", "abc"))
            readers = [random_moves(source, len(alphabet), source.randint(1, 4)) for _ in range(source.randint(1, 4))]
            for told, turn in ((free_ahead(alphabet, readers), 1), (free_behind(alphabet, readers), -1)):
                found = dict(told)
                self.assertEqual(list(found), sorted(found, key=lambda row: (len(row), row)))
                kept = []
                for row in rows(alphabet, 6 if alphabet == "ab" else 4):
                    item = tuple(led(alphabet, reader, row[::turn]) for reader in readers)
                    vector = vector_of(readers, item)
                    fresh = rank(kept + [vector]) > len(kept)
                    self.assertEqual(row in found, fresh)
                    if fresh:
                        self.assertEqual(found[row], item)
                        kept.append(vector)

    def test_many_items(self):
        # These readers reach 37 * 38 * 39 * 40 items together.
        readers = [counter(4, many, (letter,)) for letter, many in enumerate((37, 38, 39, 40))]
        for told in (free_ahead("abcd", readers), free_behind("abcd", readers)):
            self.assertEqual(len(told), 37 + 38 + 39 + 40 - 3)


if __name__ == "__main__":
    unittest.main()
