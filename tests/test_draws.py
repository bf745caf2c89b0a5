"""Promise 7: draws, made from a seed and listed."""

import unittest

from helpers import GREAT, GREATEST, MANY_PLACES, NO_NUMBERS, TINY, USUAL, told
from veiledgates.draws import Listed, Made
from veiledgates.sizes import Sizes

STATES = 2 ** 61 - 1
SEEDS = [0, 1, 5, -1, STATES - 1, STATES, STATES + 1, -STATES, 2 * STATES, -3 * STATES + 2, GREAT, -GREAT]
ALL_SIZES = [TINY, USUAL, MANY_PLACES, GREATEST]


def advanced(state):
    return (state * 48271 + 1234577) % STATES


class MadeDraws(unittest.TestCase):
    def test_the_first_state(self):
        for seed in SEEDS:
            self.assertEqual(Made(seed).state, seed % STATES)
            self.assertEqual(Made(seed=seed).state, seed % STATES)
        self.assertEqual([Made(STATES).state, Made(-STATES).state, Made(-1).state], [0, 0, STATES - 1])

    def test_residues_and_noises(self):
        for seed in SEEDS:
            for sizes in ALL_SIZES:
                draws = Made(seed)
                state = seed % STATES
                for _ in range(5):
                    yields = []
                    for _ in range(3):
                        state = advanced(state)
                        yields.append(state // 65536)
                    high, middle, low = yields
                    wanted = (high * 2 ** 90 + middle * 2 ** 45 + low) % sizes.modulus
                    self.assertEqual(draws.residue(sizes), wanted)
                    self.assertEqual(draws.state, state)
                    state = advanced(state)
                    wanted = state // 65536 % (2 * sizes.spread + 1) - sizes.spread
                    self.assertEqual(draws.noise(sizes=sizes), wanted)
                    self.assertEqual(draws.state, state)

    def test_a_noise_advances_also_without_spread(self):
        draws = Made(7)
        self.assertEqual([draws.noise(TINY), draws.state], [0, advanced(7)])

    def test_noises_reach_both_ends(self):
        sizes = Sizes(1, 4, 16, 2, 2)
        draws = Made(3)
        self.assertEqual({draws.noise(sizes) for _ in range(200)}, {-2, -1, 0, 1, 2})

    def test_wrong_seeds(self):
        for wrong in NO_NUMBERS:
            found = told(Made, wrong)
            self.assertEqual(found, ("InvalidNumber", {"value": wrong}))
            self.assertIs(found[1]["value"], wrong)

    def test_twins_are_independent(self):
        draws = Made(9)
        draws.residue(USUAL)
        before = draws.state
        twin = draws.twin()
        self.assertIsInstance(twin, Made)
        self.assertEqual(twin.state, before)
        first = [twin.residue(USUAL), twin.noise(USUAL)]
        self.assertEqual(draws.state, before)
        self.assertEqual([draws.residue(USUAL), draws.noise(USUAL)], first)
        self.assertEqual(draws.state, twin.state)

    def test_state_is_a_property(self):
        self.assertIsInstance(vars(Made)["state"], property)


class ListedDraws(unittest.TestCase):
    def test_in_turn_and_over_again(self):
        draws = Listed([1, -1, 256, 300], (0, 1))
        self.assertEqual([draws.residue(TINY) for _ in range(9)], [1, 255, 0, 44, 1, 255, 0, 44, 1])
        sizes = Sizes(1, 4, 16, 2, 1)
        self.assertEqual([draws.noise(sizes) for _ in range(5)], [0, 1, 0, 1, 0])

    def test_both_rows_go_on_apart(self):
        draws = Listed(numbers=(1, 2, 3), noises=[4, 5])
        sizes = Sizes(1, 4, 16, 2, 9)
        found = [draws.residue(sizes), draws.noise(sizes), draws.noise(sizes), draws.residue(sizes), draws.noise(sizes),
                 draws.residue(sizes), draws.residue(sizes)]
        self.assertEqual(found, [1, 4, 5, 2, 4, 3, 1])

    def test_each_draw_has_its_own_sizes(self):
        draws = Listed([GREAT], [-7])
        for sizes in ALL_SIZES:
            self.assertEqual(draws.residue(sizes=sizes), GREAT % sizes.modulus)
            self.assertEqual(draws.noise(sizes=sizes), max(-7, -sizes.spread))

    def test_noises_at_and_beyond_the_spread(self):
        sizes = Sizes(1, 4, 16, 2, 3)
        draws = Listed([0], [-4, -3, -2, 2, 3, 4, GREAT, -GREAT])
        self.assertEqual([draws.noise(sizes) for _ in range(8)], [-3, -3, -2, 2, 3, 3, 3, -3])
        draws = Listed([0], [-1, 0, 1])
        self.assertEqual([draws.noise(TINY) for _ in range(3)], [0, 0, 0])

    def test_wrong_arguments(self):
        wrong = NO_NUMBERS + [1, GREAT, [1, True], (None,), [1, 2, "3"], [[1]], (1, (2,)), {0: 1}]
        for value in wrong:
            if value in ((1,), [1]):
                continue
            self.assertEqual(told(Listed, value, [1]), ("BadList", {"at": 0}), value)
            self.assertEqual(told(Listed, value, value), ("BadList", {"at": 0}), value)
            self.assertEqual(told(Listed, [1], value), ("BadList", {"at": 1}), value)

    def test_lists_are_copied(self):
        numbers, noises = [1, 2], [3, 4]
        draws = Listed(numbers, noises)
        numbers[0] = noises[0] = 9
        numbers.clear()
        sizes = Sizes(1, 4, 16, 2, 9)
        self.assertEqual([draws.residue(sizes), draws.noise(sizes), draws.residue(sizes)], [1, 3, 2])
        self.assertEqual(noises, [9, 4])

    def test_twins_are_independent(self):
        sizes = Sizes(1, 4, 16, 2, 9)
        draws = Listed([1, 2, 3], [4, 5])
        draws.residue(sizes)
        draws.noise(sizes)
        twin = draws.twin()
        self.assertIsInstance(twin, Listed)
        self.assertEqual([twin.residue(sizes), twin.residue(sizes), twin.noise(sizes)], [2, 3, 5])
        self.assertEqual([draws.residue(sizes), draws.noise(sizes)], [2, 5])
        self.assertEqual([twin.residue(sizes), twin.noise(sizes)], [1, 4])


if __name__ == "__main__":
    unittest.main()
