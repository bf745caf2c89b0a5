"""Promises 13 and 14: covers refreshed by public tables, with promises 2 and 4 for them."""

import itertools
import unittest

import slow
from helpers import (GREATEST, MANY_PLACES, TINY, USUAL, drawn, each_other_sizes, row_of, rows_of, samples, some_cover,
                     told)
from veiledgates.covers import Cover
from veiledgates.draws import Listed, Made
from veiledgates.keys import Key
from veiledgates.refreshing import extracted, refreshed, rotated, rounded_cover
from veiledgates.rings import RingCover
from veiledgates.sizes import Sizes
from veiledgates.tables import Public

EXACT = Sizes(3, 8, 16, 5, 0)
SPREAD = Sizes(2, 4, 256, 3, 3)
ALL_SIZES = [TINY, USUAL, MANY_PLACES, EXACT, SPREAD]


def plain_tables(public):
    """The selectors and the switch of public tables as plain lists."""
    sizes = public.sizes
    selectors = [[tuple(rows_of(ring) for ring in public.selector(at).pair(j)) for j in range(sizes.places)]
                 for at in range(sizes.length)]
    switch = [[row_of(public.switch.cover(at, i)) for i in range(sizes.places)] for at in range(sizes.ring)]
    return selectors, switch


def place(key, cover):
    """The number p of promise 14."""
    sizes = cover.sizes
    mask, body = rounded_cover(cover)
    return (body - sum(a * s for a, s in zip(mask, key.bits()))) % (2 * sizes.ring)


def many_covers(sizes):
    covers = [some_cover(sizes, seed) for seed in range(12)]
    covers += [Cover.constant(sizes, bit).shifted(level) for bit in (0, 1) for level in range(8)]
    top = sizes.modulus - 1
    return covers + [Cover(sizes, [value] * sizes.length, value) for value in (1, top, top // 2, top // 2 + 1)]


class Rounding(unittest.TestCase):
    def test_all_numbers_are_rounded(self):
        for sizes in ALL_SIZES + [GREATEST]:
            for cover in many_covers(sizes):
                found = rounded_cover(cover=cover)
                self.assertIsInstance(found, tuple)
                mask, body = found
                self.assertEqual(mask + [body], [slow.rounded(number, sizes) for number in row_of(cover)])

    def test_with_plain_numbers(self):
        # A step is 32 wide, and its middle belongs to the higher number.
        self.assertEqual(rounded_cover(Cover(TINY, [15], 16)), ([0], 1))
        self.assertEqual(rounded_cover(Cover(TINY, [239], 240)), ([7], 0))
        self.assertEqual(rounded_cover(Cover(TINY, [128], 255)), ([4], 0))


class Rotating(unittest.TestCase):
    def test_by_its_words(self):
        for sizes in ALL_SIZES:
            key, public = drawn(sizes, 1)
            selectors, _ = plain_tables(public)
            for cover in many_covers(sizes):
                found = rotated(public=public, cover=cover)
                self.assertIsInstance(found, RingCover)
                self.assertEqual(rows_of(found), slow.rotated(sizes, selectors, row_of(cover)))

    def test_phases(self):
        for sizes in ALL_SIZES:
            bound = sizes.length * 2 * sizes.places * sizes.ring * (sizes.base // 2) * sizes.spread
            for seed in (2, 3):
                key, public = drawn(sizes, seed)
                for cover in many_covers(sizes):
                    start = RingCover.start(sizes, place(key, cover))
                    found = key.ring_phase(rotated(public, cover)) - start.second
                    self.assertLessEqual(found.greatest(), bound)

    def test_exact_without_spread(self):
        for bits in itertools.product((0, 1), repeat=3):
            key = Key(EXACT, bits, [1, 0, 1, 1, 0, 0, 1, 0])
            public = key.public_tables(draws=Made(4))
            for cover in many_covers(EXACT):
                start = RingCover.start(EXACT, place(key, cover))
                self.assertEqual(key.ring_phase(rotated(public, cover)), start.second)


class Extracting(unittest.TestCase):
    def test_with_plain_numbers(self):
        first, second = samples(TINY)[5:7]
        ring = RingCover(first, second)
        one = first.numbers()
        self.assertEqual(extracted(ring=ring),
                         ([one[0], -one[3] % 256, -one[2] % 256, -one[1] % 256], second.numbers()[0]))
        self.assertEqual(extracted(RingCover.start(TINY, 0)), ([0, 0, 0, 0], 32))
        self.assertEqual(extracted(RingCover.start(TINY, 4)), ([0, 0, 0, 0], 224))

    def test_by_its_words(self):
        for sizes in ALL_SIZES + [GREATEST]:
            for first in samples(sizes):
                for second in samples(sizes):
                    found = extracted(RingCover(first, second))
                    self.assertIsInstance(found, tuple)
                    self.assertEqual(found, slow.extracted(sizes, (first.numbers(), second.numbers())))

    def test_the_phase_is_the_number_with_the_index_0(self):
        for sizes in ALL_SIZES:
            for bits in ([1] * sizes.ring, [0] * sizes.ring, [int(k % 3 < 2) for k in range(sizes.ring)]):
                key = Key(sizes, [0] * sizes.length, bits)
                for first in samples(sizes):
                    ring = RingCover(first, samples(sizes)[5])
                    mask, body = extracted(ring)
                    self.assertEqual(slow.phase(mask + [body], bits, sizes.modulus),
                                     key.ring_phase(ring).centered_numbers()[0])


class Refreshing(unittest.TestCase):
    def test_by_its_words(self):
        for sizes in ALL_SIZES:
            key, public = drawn(sizes, 5)
            tables = plain_tables(public)
            for cover in many_covers(sizes):
                found = refreshed(public=public, cover=cover)
                self.assertIsInstance(found, Cover)
                self.assertEqual(row_of(found), slow.refreshed(sizes, tables, row_of(cover)))

    def test_tables_that_belong_to_no_key(self):
        text = drawn(TINY, 6)[1].text().split("\n")
        for number in ("0", "1", "255", "128"):
            public = Public.read("\n".join(text[:1] + [" ".join([number] * len(line.split())) for line in text[1:]]))
            tables = plain_tables(public)
            for cover in many_covers(TINY):
                self.assertEqual(row_of(refreshed(public, cover)), slow.refreshed(TINY, tables, row_of(cover)))

    def test_noises_within_the_limit(self):
        for sizes in ALL_SIZES + [Sizes(1, 4, 4, 8, 40), Sizes(8, 4, 65536, 2, 3)]:
            spread = sizes.spread
            for draws in (Made(7), Listed([11 ** k for k in range(99)], [spread]),
                          Listed([13 ** k for k in range(99)], [-spread, spread])):
                key = Key.drawn(sizes, draws=draws)
                public = key.public_tables(draws=draws)
                for cover in many_covers(sizes):
                    level = 1 if place(key, cover) < sizes.ring else 7
                    found = refreshed(public, cover)
                    self.assertLessEqual(key.noise_at(found, level), sizes.limit)
                    if sizes.limit < sizes.modulus // 8:
                        self.assertEqual(key.opened(found), 1 if level == 1 else 0)

    def test_all_places_exactly_without_spread(self):
        for sizes in (TINY, EXACT):
            for bits in itertools.product((0, 1), repeat=sizes.length):
                key = Key(sizes, bits, [int(k % 3 < 2) for k in range(sizes.ring)])
                public = key.public_tables(draws=Made(8))
                places = set()
                for step in range(4 * sizes.ring):
                    cover = some_cover(sizes, step)
                    cover = Cover(sizes, cover.mask(), cover.body + step * sizes.modulus // (4 * sizes.ring))
                    at = place(key, cover)
                    places.add(at)
                    self.assertEqual(key.noise_at(refreshed(public, cover), 1 if at < sizes.ring else 7), 0)
                self.assertGreater(len(places), sizes.ring)

    def test_places_at_the_edges(self):
        # Without a mask the place is the rounded body: N - 1 and 0 belong to the bit 1, N and 2 N - 1 to the bit 0.
        key = Key(TINY, [1], [1, 0, 0, 1])
        public = key.public_tables(draws=Made(9))
        for body, bit in ((0, 1), (111, 1), (112, 0), (127, 0), (239, 0), (240, 1), (255, 1)):
            found = refreshed(public, Cover(TINY, [0], body))
            self.assertEqual([key.opened(found), key.noise_at(found, 1 if bit else 7)], [bit, 0])

    def test_the_place_is_near_the_phase(self):
        for sizes in ALL_SIZES + [GREATEST]:
            key = Key.drawn(sizes, draws=Made(10))
            q, steps = sizes.modulus, 2 * sizes.ring
            for cover in many_covers(sizes):
                # Both sides are multiplied by 2 q, so that no fraction is needed.
                away = slow.centered(2 * (q * place(key, cover) - steps * key.phase(cover)), 2 * q * steps)
                self.assertLessEqual(abs(away), q * (sizes.length + 1))

    def test_phases_far_enough_open_to_their_bit(self):
        for sizes in (USUAL, EXACT, MANY_PLACES, SPREAD):
            key, public = drawn(sizes, 11)
            for cover in many_covers(sizes):
                phase = key.phase(cover)
                far = min(abs(phase), sizes.modulus // 2 - abs(phase))
                if 2 * 2 * sizes.ring * far > (sizes.length + 1) * sizes.modulus and sizes.limit < sizes.modulus // 8:
                    self.assertEqual(key.opened(refreshed(public, cover)), key.opened(cover))

    def test_noise_becomes_small_again(self):
        key, public = drawn(USUAL, 12)
        for noise in (0, USUAL.limit, USUAL.modulus // 32, -USUAL.modulus // 32):
            for bit, level in ((1, 1), (0, 7)):
                cover = key.cover_of(level * USUAL.eighth + noise, draws=Made(13))
                self.assertGreaterEqual(key.noise_at(cover, level), abs(noise) - 1)
                self.assertLessEqual(key.noise_at(refreshed(public, cover), level), USUAL.limit)

    def test_unlike_sizes(self):
        for sizes, other in each_other_sizes():
            for one, two in ((sizes, other), (other, sizes)):
                public, cover = drawn(one, 1)[1], some_cover(two, 1)
                self.assertEqual(told(rotated, public, cover), ("Unlike", {}))
                self.assertEqual(told(refreshed, public, cover), ("Unlike", {}))

    def test_equal_calls_return_equal_results(self):
        key, public = drawn(USUAL, 14)
        cover = some_cover(USUAL, 3)
        before = [public.text(), cover.text()]
        self.assertEqual(refreshed(public, cover), refreshed(Public.read(public.text()), cover))
        self.assertEqual([public.text(), cover.text()], before)


if __name__ == "__main__":
    unittest.main()
