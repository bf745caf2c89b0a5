"""Promises 8, 10 and 22 for selectors, switches and public tables, with promise 2 for them."""

import unittest

import slow
from helpers import (GREAT, MANY_PLACES, NO_NUMBERS, NO_STRINGS, TINY, USUAL, bent_texts, drawn, each_other_sizes,
                     joined_lines, row_of, rows_of, some_cover, told)
from veiledgates.covers import Cover
from veiledgates.draws import Listed, Made
from veiledgates.keys import Key
from veiledgates.rings import RingCover
from veiledgates.sizes import Sizes
from veiledgates.tables import Public, Selector, Switch

SPREAD = Sizes(2, 4, 16, 2, 3)
ALL_SIZES = [TINY, USUAL, MANY_PLACES, SPREAD]


def switches(sizes, width, draws):
    """A key, a row of bits, and the switch from the row to the key."""
    key = Key.drawn(sizes, draws=Made(4))
    bits = [(k * k + k // 3) % 2 for k in range(width)]
    return key, bits, key.switch_from(bits, draws=draws)


class Selectors(unittest.TestCase):
    def test_pairs(self):
        for sizes in ALL_SIZES:
            _, public = drawn(sizes, 1)
            selector = public.selector(0)
            self.assertIsInstance(selector, Selector)
            self.assertEqual(selector.sizes, sizes)
            for at in range(sizes.places):
                pair = selector.pair(at=at)
                self.assertIsInstance(pair, tuple)
                self.assertEqual(len(pair), 2)
                self.assertTrue(all(isinstance(ring, RingCover) for ring in pair))

    def test_wrong_indexes(self):
        for sizes in ALL_SIZES:
            selector = drawn(sizes, 1)[1].selector(0)
            for wrong in [-1, sizes.places, GREAT, -GREAT] + NO_NUMBERS:
                found = told(selector.pair, wrong)
                self.assertEqual(found, ("InvalidNumber", {"value": wrong}))
                self.assertIs(found[1]["value"], wrong)

    def test_equality(self):
        key = Key(TINY, [1], [1, 0, 0, 1])
        one = key.selector_of(1, draws=Made(1))
        self.assertIs(one == key.selector_of(1, draws=Made(1)), True)
        self.assertIs(one != key.selector_of(1, draws=Made(1)), False)
        others = [key.selector_of(0, draws=Made(1)), key.selector_of(1, draws=Made(2)),
                  Key(Sizes(2, 4, 16, 2, 0), [0, 0], [1, 0, 0, 1]).selector_of(1, draws=Made(1)),
                  Key(Sizes(1, 4, 16, 2, 1), [0], [1, 0, 0, 1]).selector_of(1, draws=Listed([1], [0]))]
        for other in others + [None, 1, "", [1], one.pair(0), TINY, drawn(TINY, 1)[1]]:
            self.assertIs(one == other, False)
            self.assertIs(one != other, True)

    def test_equal_but_for_the_sizes(self):
        selectors = [Key(sizes, [0] * sizes.length, [0] * 4).selector_of(1, draws=Listed([1], [0]))
                     for sizes in (TINY, Sizes(2, 4, 16, 2, 0), Sizes(1, 4, 16, 2, 1))]
        self.assertEqual(len({str(rows_of(one.pair(0)[0])) for one in selectors}), 1)
        self.assertFalse(selectors[0] == selectors[1] or selectors[0] == selectors[2])

    def test_bent_in_one_place(self):
        text = drawn(TINY, 3)[1].text().split("\n")
        for line in (1, 2, 3, 4):
            lines = list(text)
            words = lines[line].split(" ")
            words[-1] = str((int(words[-1]) + 1) % 256)
            lines[line] = " ".join(words)
            self.assertFalse(Public.read("\n".join(lines)).selector(0) == Public.read("\n".join(text)).selector(0))


class Switches(unittest.TestCase):
    def test_covers(self):
        for sizes in ALL_SIZES:
            key, bits, switch = switches(sizes, 5, Made(1))
            self.assertIsInstance(switch, Switch)
            self.assertEqual([switch.sizes, switch.width], [sizes, 5])
            for at, bit in enumerate(bits):
                for place in range(sizes.places):
                    cover = switch.cover(at=at, place=place)
                    away = key.phase(cover) - bit * sizes.base ** place
                    self.assertLessEqual(abs(slow.centered(away, sizes.modulus)), sizes.spread)

    def test_wrong_indexes(self):
        for sizes in ALL_SIZES:
            for width in (0, 1, 5, 32):
                switch = switches(sizes, width, Made(1))[2]
                for wrong in [-1, width, GREAT] + NO_NUMBERS:
                    found = told(switch.cover, wrong, None)
                    self.assertEqual(found, ("InvalidNumber", {"value": wrong}))
                    self.assertIs(found[1]["value"], wrong)
                for wrong in [-1, sizes.places, GREAT] + NO_NUMBERS:
                    if width:
                        found = told(switch.cover, width - 1, wrong)
                        self.assertEqual(found, ("InvalidNumber", {"value": wrong}))
                        self.assertIs(found[1]["value"], wrong)

    def test_led_number_for_number(self):
        key = Key(SPREAD, [0, 0], [0] * 4)
        switch = key.switch_from([1, 0], draws=Listed([1, 2, 3, 4, 5, 6, 7, 8], [0]))
        # 24 has the digits -8 and 2, and 3 the digits 3 and 0.
        found = switch.led([24, 3], 100)
        self.assertEqual(row_of(found), [(8 * 1 - 2 * 3 - 3 * 5) % 256, (8 * 2 - 2 * 4 - 3 * 6) % 256,
                                         100 + 8 * 1 - 2 * 16])

    def test_led_by_its_words(self):
        for sizes in ALL_SIZES:
            for width in (0, 1, sizes.length, sizes.ring, 32):
                key, bits, switch = switches(sizes, width, Made(2))
                rows = slow.drawn_switch(sizes, key.bits(), bits, Made(2))
                for seed in range(3):
                    numbers = [(seed * 31 + k) ** 13 - 10 ** 9 for k in range(width)]
                    for kind in (list, tuple):
                        found = switch.led(kind(numbers), seed * 977 - 5)
                        self.assertEqual(row_of(found), slow.led(sizes, rows, numbers, seed * 977 - 5))
                        self.assertEqual(found.sizes, sizes)

    def test_led_numbers_count_modulo_q(self):
        for sizes in ALL_SIZES:
            switch = switches(sizes, 3, Made(2))[2]
            q = sizes.modulus
            self.assertEqual(switch.led(numbers=[1, -1, 5 + q], body=-1), switch.led([1 + q, q - 1, 5], q - 1))
            self.assertEqual(switch.led([GREAT, -GREAT, 0], GREAT), switch.led([GREAT % q, -GREAT % q, q], GREAT % q))

    def test_led_leaves_its_numbers(self):
        numbers = [300, -5, 7]
        switches(TINY, 3, Made(2))[2].led(numbers, 1)
        self.assertEqual(numbers, [300, -5, 7])

    def test_phases_of_what_was_led(self):
        for sizes in ALL_SIZES + [Sizes(2, 8, 16, 6, 1000), Sizes(8, 4, 16, 6, 1000)]:
            for noises in ([sizes.spread], [-sizes.spread], [-sizes.spread, sizes.spread], [0, 1, -1]):
                for width in (0, 1, sizes.length, 32):
                    key, bits, switch = switches(sizes, width, Listed([3 ** k for k in range(99)], noises))
                    bound = width * sizes.places * (sizes.base // 2) * sizes.spread
                    for fill in (1, sizes.base // 2, -1, sizes.modulus // 3):
                        numbers = [fill * (k + 1) for k in range(width)]
                        body = fill ** 2 + 5
                        away = key.phase(switch.led(numbers, body)) - body + sum(a * s for a, s in zip(numbers, bits))
                        self.assertLessEqual(abs(slow.centered(away, sizes.modulus)), bound)

    def test_the_bound_is_reached(self):
        # Each digit is -B/2, and each noise is the spread.
        sizes = Sizes(1, 4, 16, 4, 3)
        key = Key(sizes, [1], [0] * 4)
        switch = key.switch_from([0, 0], draws=Listed([9, 99], [3]))
        number = sum(-8 * 16 ** k for k in range(4))
        self.assertEqual(slow.digits(number, sizes), [-8] * 4)
        self.assertEqual(key.phase(switch.led([number, number], 0)), 2 * 4 * 8 * 3)

    def test_wrong_rows(self):
        switch = switches(USUAL, 3, Made(1))[2]
        for wrong in [None, True, 3, "123", {}, {0: 1, 1: 1, 2: 1}, [], (), [1, 2], [1, 2, 3, 4], USUAL]:
            self.assertEqual(told(switch.led, wrong, None), ("BadList", {"at": -1}), wrong)
        for at in range(3):
            for wrong in NO_NUMBERS:
                row = [1] * at + [wrong] * (3 - at)
                self.assertEqual(told(switch.led, row, None), ("BadList", {"at": at}))
                self.assertEqual(told(switch.led, tuple(row), 1), ("BadList", {"at": at}))
        for wrong in NO_NUMBERS:
            found = told(switch.led, [1, 2, 3], wrong)
            self.assertEqual(found, ("InvalidNumber", {"value": wrong}))
            self.assertIs(found[1]["value"], wrong)

    def test_moved_covers(self):
        for sizes in ALL_SIZES:
            old = Key.drawn(sizes, draws=Made(20))
            new = Key.drawn(sizes, draws=Made(21))
            switch = new.switch_from(old.bits(), draws=Made(22))
            for seed in range(5):
                cover = some_cover(sizes, seed)
                found = switch.moved(cover=cover)
                self.assertEqual(found, switch.led(cover.mask(), cover.body))
                away = slow.centered(new.phase(found) - old.phase(cover), sizes.modulus)
                self.assertLessEqual(abs(away), sizes.leading)
                for level in range(8):
                    self.assertLessEqual(new.noise_at(found, level), old.noise_at(cover, level) + sizes.leading)

    def test_moved_exactly_without_spread(self):
        sizes = Sizes(3, 4, 16, 3, 0)
        old, new = Key(sizes, [1, 0, 1], [0] * 4), Key(sizes, [0, 1, 1], [1] * 4)
        switch = new.switch_from(old.bits(), draws=Made(1))
        for seed in range(9):
            self.assertEqual(new.phase(switch.moved(some_cover(sizes, seed))), old.phase(some_cover(sizes, seed)))

    def test_moved_with_another_width(self):
        for sizes in ALL_SIZES:
            for width in range(0, 10):
                switch = switches(sizes, width, Made(1))[2]
                wanted = None if width == sizes.length else ("Unlike", {})
                self.assertEqual(told(switch.moved, some_cover(sizes, 1)), wanted)

    def test_moved_with_unlike_sizes(self):
        for sizes, other in each_other_sizes():
            for one, two in ((sizes, other), (other, sizes)):
                for width in (one.length, two.length):
                    switch = switches(one, width, Made(1))[2]
                    self.assertEqual(told(switch.moved, some_cover(two, 1)), ("Unlike", {}))

    def test_equality(self):
        key = Key(TINY, [1], [1, 0, 0, 1])
        one = key.switch_from([1, 0], draws=Made(1))
        self.assertIs(one == key.switch_from((1, 0), draws=Made(1)), True)
        self.assertIs(one != key.switch_from((1, 0), draws=Made(1)), False)
        others = [key.switch_from([1, 1], draws=Made(1)), key.switch_from([1, 0, 0], draws=Made(1)),
                  key.switch_from([1], draws=Made(1)), key.switch_from([], draws=Made(1)),
                  key.switch_from([1, 0], draws=Made(2))]
        for other in others + [None, 1, "", [], one.cover(0, 0), TINY, drawn(TINY, 1)[1]]:
            self.assertIs(one == other, False)
            self.assertIs(one != other, True)
        empty = [Key(sizes, [0] * sizes.length, [0] * sizes.ring).switch_from([], draws=Made(1))
                 for sizes in (TINY, TINY, USUAL)]
        self.assertEqual([empty[0] == empty[1], empty[0] == empty[2]], [True, False])


class Publics(unittest.TestCase):
    def test_attributes(self):
        for sizes in ALL_SIZES:
            key, public = drawn(sizes, 7)
            self.assertIsInstance(public, Public)
            self.assertEqual([public.sizes, public.switch.sizes, public.switch.width], [sizes, sizes, sizes.ring])
            for at in range(sizes.length):
                self.assertEqual(public.selector(at=at).sizes, sizes)

    def test_wrong_indexes(self):
        for sizes in ALL_SIZES:
            public = drawn(sizes, 7)[1]
            for wrong in [-1, sizes.length, GREAT, -GREAT] + NO_NUMBERS:
                found = told(public.selector, wrong)
                self.assertEqual(found, ("InvalidNumber", {"value": wrong}))
                self.assertIs(found[1]["value"], wrong)

    def test_signs_of_the_text(self):
        key = Key(TINY, [1], [1, 0, 0, 0])
        text = key.public_tables(draws=Listed(list(range(1, 29)), [0])).text()
        self.assertEqual(text, joined_lines([
            "public 1 4 16 2 0",
            "2 2 3 4 1 2 3 4", "5 6 7 8 6 6 7 8", "25 10 11 12 9 10 11 12", "13 14 15 16 29 14 15 16",
            "17 18", "18 34", "19 19", "20 20", "21 21", "22 22", "23 23", "24 24",
        ]))

    def test_texts_by_their_words(self):
        for sizes in ALL_SIZES:
            key, public = drawn(sizes, 8)
            lines = ["public " + str(sizes)]
            for at in range(sizes.length):
                for j in range(sizes.places):
                    for first, second in map(rows_of, public.selector(at).pair(j)):
                        lines.append(" ".join(str(number) for number in first + second))
            for at in range(sizes.ring):
                lines.extend(str(public.switch.cover(at, i)) for i in range(sizes.places))
            self.assertEqual(public.text(), joined_lines(lines))

    def test_reading_what_was_written(self):
        for sizes in ALL_SIZES:
            key, public = drawn(sizes, 9)
            again = Public.read(text=public.text())
            self.assertEqual([again.text(), again], [public.text(), public])
            self.assertEqual([again.sizes, again.switch], [sizes, public.switch])

    def test_any_residues_can_stand(self):
        for number in (0, 1, 255):
            text = joined_lines(["public 1 4 16 2 0"] + [" ".join([str(number)] * 8)] * 4 + [f"{number} {number}"] * 8)
            public = Public.read(text)
            self.assertEqual(public.text(), text)
            self.assertEqual(row_of(public.switch.cover(3, 1)), [number, number])

    def test_bent_texts(self):
        for sizes in (TINY, Sizes(2, 4, 256, 1, 1)):
            for text, line in bent_texts(drawn(sizes, 10)[1].text()):
                self.assertEqual(told(Public.read, text), ("InvalidText", {"line": line}), text)

    def test_numbers_at_the_modulus(self):
        text = drawn(TINY, 11)[1].text()
        lines = text.split("\n")[:-1]
        for at in range(1, len(lines)):
            for place in range(len(lines[at].split(" "))):
                for value, line in ((255, None), (256, at), (1000, at), (-1, at)):
                    words = lines[at].split(" ")
                    words[place] = str(value)
                    bent = joined_lines(lines[:at] + [" ".join(words)] + lines[at + 1:])
                    self.assertEqual(told(Public.read, bent), line if line is None else ("InvalidText", {"line": line}))

    def test_heads_that_cannot_stand(self):
        rest = drawn(TINY, 12)[1].text().split("\n", 1)[1]
        for head in ("public 1 4 16 2 1001", "public 0 4 16 2 0", "public 1 5 16 2 0", "public 1 4 5 2 0", "public",
                     "public 1 4 16 9 0", "public 1 4 16 1 0", "key 1 4 16 2 0", "public 1 4 16 2", "public 1 4 16 2 0 0",
                     "Public 1 4 16 2 0", "public 01 4 16 2 0", "public  1 4 16 2 0", "", " public 1 4 16 2 0"):
            self.assertEqual(told(Public.read, head + "\n" + rest), ("InvalidText", {"line": 0}), head)
        # With another length or ring the line behind the head has another number of words.
        self.assertEqual(told(Public.read, "public 1 8 16 2 0\n" + rest), ("InvalidText", {"line": 1}))
        self.assertEqual(told(Public.read, "public 2 4 16 2 0\n" + rest), ("InvalidText", {"line": 5}))
        self.assertEqual(told(Public.read, ""), ("InvalidText", {"line": 0}))
        self.assertEqual(told(Public.read, "public 1 4 16 2 0\n"), ("InvalidText", {"line": 1}))
        self.assertEqual(told(Public.read, "public 1 4 16 2 7\n" + rest), None)

    def test_values_that_are_no_strings(self):
        for value in NO_STRINGS + [drawn(TINY, 1)[1]]:
            self.assertEqual(told(Public.read, value), ("InvalidText", {"line": 0}))

    def test_equality(self):
        key, public = drawn(TINY, 13)
        self.assertIs(public == Public.read(public.text()), True)
        self.assertIs(public != Public.read(public.text()), False)
        lines = public.text().split("\n")
        for at in range(1, len(lines) - 1):
            words = lines[at].split(" ")
            words[0] = str((int(words[0]) + 1) % 256)
            other = Public.read("\n".join(lines[:at] + [" ".join(words)] + lines[at + 1:]))
            self.assertIs(public == other, False)
            self.assertIs(public != other, True)
        spread = Public.read("\n".join(["public 1 4 16 2 1"] + lines[1:]))
        for other in (spread, None, 1, public.text(), [], key, TINY, public.selector(0), public.switch):
            self.assertIs(public == other, False)
            self.assertIs(public != other, True)

    def test_they_never_change(self):
        key, public = drawn(USUAL, 14)
        before = public.text()
        public.switch.led([1] * 8, 3)
        public.switch.cover(0, 0).mask().clear()
        public.selector(0).pair(0)[0].first.numbers().clear()
        self.assertEqual(public.text(), before)
        self.assertEqual(Cover.read(USUAL, before.split("\n")[-2]), public.switch.cover(7, 1))


if __name__ == "__main__":
    unittest.main()
