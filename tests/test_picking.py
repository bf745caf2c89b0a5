"""Promises 11 and 12: selectors combined with ring covers, and ring covers picked, with promise 2 for them."""

import unittest

import slow
from helpers import (GREAT, GREATEST, MANY_PLACES, TINY, USUAL, each_other_sizes, rows_of, samples, told)
from veiledgates.draws import Listed, Made
from veiledgates.keys import Key
from veiledgates.picking import combined, picked
from veiledgates.rings import RingCover
from veiledgates.sizes import Sizes

EXACT = Sizes(2, 8, 16, 5, 0)
SPREAD = Sizes(2, 4, 16, 3, 5)
ALL_SIZES = [TINY, USUAL, MANY_PLACES, EXACT, SPREAD]


def key_of(sizes):
    return Key(sizes, [1] * sizes.length, [int(k % 3 < 2) for k in range(sizes.ring)])


def some_rings(sizes):
    polys = samples(sizes)
    return [RingCover(polys[at], polys[-1 - at]) for at in range(len(polys))] + [RingCover.start(sizes, 3)]


def pairs_of(selector):
    return [tuple(rows_of(ring) for ring in selector.pair(at)) for at in range(selector.sizes.places)]


def away(sizes, one, other):
    """The greatest absolute difference of two rows of phases, as centered values."""
    return max(abs(slow.centered(a - b, sizes.modulus)) for a, b in zip(one, other))


def bound(sizes):
    return 2 * sizes.places * sizes.ring * (sizes.base // 2) * sizes.spread


class Combining(unittest.TestCase):
    def test_by_its_words(self):
        for sizes in ALL_SIZES:
            for bit in (0, 1):
                selector = key_of(sizes).selector_of(bit, draws=Made(3))
                for ring in some_rings(sizes):
                    found = combined(selector=selector, ring=ring)
                    self.assertIsInstance(found, RingCover)
                    self.assertEqual(rows_of(found), slow.combined(sizes, pairs_of(selector), rows_of(ring)))
                    self.assertEqual(found.sizes, sizes)

    def test_greatest_sizes_by_its_words(self):
        selector = key_of(GREATEST).selector_of(1, draws=Made(3))
        ring = some_rings(GREATEST)[5]
        self.assertEqual(rows_of(combined(selector, ring)), slow.combined(GREATEST, pairs_of(selector), rows_of(ring)))

    def test_phases(self):
        for sizes in ALL_SIZES:
            key = key_of(sizes)
            spread = sizes.spread
            for draws in (Made(1), Listed([7 ** k for k in range(90)], [spread]), Listed([1, 5, 9], [-spread, spread])):
                for bit in (0, 1):
                    selector = key.selector_of(bit, draws=draws)
                    for ring in some_rings(sizes):
                        wanted = [bit * number for number in key.ring_phase(ring).centered_numbers()]
                        found = key.ring_phase(combined(selector, ring)).centered_numbers()
                        self.assertLessEqual(away(sizes, found, wanted), bound(sizes))

    def test_exact_without_spread(self):
        for sizes in (TINY, EXACT):
            key = key_of(sizes)
            for ring in some_rings(sizes):
                one = combined(key.selector_of(1, draws=Made(1)), ring)
                self.assertEqual(key.ring_phase(one), key.ring_phase(ring))
                zero = combined(key.selector_of(0, draws=Made(1)), ring)
                self.assertEqual(key.ring_phase(zero).numbers(), [0] * sizes.ring)

    def test_a_selector_without_masks_gives_the_ring_cover_itself(self):
        key = Key(TINY, [1], [0] * 4)
        for ring in some_rings(TINY):
            self.assertEqual(combined(key.selector_of(1, draws=Listed([0], [0])), ring), ring)
            self.assertEqual(rows_of(combined(key.selector_of(0, draws=Listed([0], [0])), ring)), ([0] * 4, [0] * 4))

    def test_unlike_sizes(self):
        for sizes, other in each_other_sizes():
            for one, two in ((sizes, other), (other, sizes)):
                selector = key_of(one).selector_of(1, draws=Made(1))
                ring = RingCover.start(two, 0)
                self.assertEqual(told(combined, selector, ring), ("Unlike", {}))
                self.assertEqual(told(picked, selector, ring, 1), ("Unlike", {}))


class Picking(unittest.TestCase):
    def test_by_its_words(self):
        for sizes in ALL_SIZES:
            for bit in (0, 1):
                selector = key_of(sizes).selector_of(bit, draws=Made(5))
                for ring in some_rings(sizes):
                    for by in (0, 1, -1, sizes.ring, 2 * sizes.ring - 1, GREAT):
                        found = picked(selector=selector, ring=ring, by=by)
                        self.assertIsInstance(found, RingCover)
                        self.assertEqual(rows_of(found), slow.picked(sizes, pairs_of(selector), rows_of(ring), by))

    def test_phases(self):
        for sizes in ALL_SIZES:
            key = key_of(sizes)
            for bit in (0, 1):
                selector = key.selector_of(bit, draws=Made(6))
                for ring in some_rings(sizes):
                    for by in (0, 1, 3, sizes.ring, -2, -GREAT):
                        wanted = key.ring_phase(ring.turned(by) if bit else ring).centered_numbers()
                        found = key.ring_phase(picked(selector, ring, by)).centered_numbers()
                        self.assertLessEqual(away(sizes, found, wanted), bound(sizes))

    def test_exact_without_spread(self):
        for sizes in (TINY, EXACT):
            key = key_of(sizes)
            one, zero = key.selector_of(1, draws=Made(7)), key.selector_of(0, draws=Made(8))
            for ring in some_rings(sizes):
                for by in range(-1, 2 * sizes.ring + 1):
                    self.assertEqual(key.ring_phase(picked(one, ring, by)), key.ring_phase(ring).turned(by))
                    self.assertEqual(key.ring_phase(picked(zero, ring, by)), key.ring_phase(ring))

    def test_turned_by_nothing(self):
        for sizes in ALL_SIZES:
            for bit in (0, 1):
                selector = key_of(sizes).selector_of(bit, draws=Made(9))
                for ring in some_rings(sizes):
                    for by in (0, 2 * sizes.ring, -2 * sizes.ring):
                        self.assertEqual(picked(selector, ring, by), ring)

    def test_arguments_stay(self):
        selector = key_of(USUAL).selector_of(1, draws=Made(9))
        ring = some_rings(USUAL)[5]
        before = [pairs_of(selector), rows_of(ring)]
        picked(selector, ring, 3)
        self.assertEqual([pairs_of(selector), rows_of(ring)], before)
        self.assertEqual(picked(selector, ring, 3), picked(selector, ring, 3))


if __name__ == "__main__":
    unittest.main()
