"""The examples of the document, as far as their modules have landed, and those of README.md."""

import doctest
import pathlib
import unittest

from helpers import told
from veiledgates.draws import Made
from veiledgates.polys import Poly
from veiledgates.residues import centered, digits, rounded, whole
from veiledgates.sizes import Sizes


class Examples(unittest.TestCase):
    def test_sizes(self):
        sizes = Sizes(2, 8, 65536, 2, 1)
        found = [sizes.modulus, sizes.limit, sizes.leading, sizes.roomy, str(sizes)]
        self.assertEqual(found, [4294967296, 2621440, 131072, True, "2 8 65536 2 1"])

    def test_bad_sizes(self):
        self.assertEqual(told(Sizes, 2, 8, 65536, 2, 1001), ("BadSizes", {"field": "spread"}))

    def test_residues(self):
        sizes = Sizes(1, 4, 16, 2, 0)
        found = [centered(200, sizes), digits(200, sizes), whole([-8, -3], sizes), rounded(200, sizes)]
        self.assertEqual(found, [-56, [-8, -3], 200, 6])

    def test_polynomials(self):
        sizes = Sizes(1, 4, 16, 2, 0)
        poly = Poly(sizes, [1, 2, 0, 0])
        found = [(poly * Poly(sizes, [0, 0, 0, 1])).numbers(), poly.turned(-1).numbers(), poly.turned(8) == poly,
                 abs(-poly)]
        self.assertEqual(found, [[254, 0, 0, 1], [2, 0, 0, 255], True, 2])

    def test_draws(self):
        sizes = Sizes(2, 8, 65536, 2, 1)
        draws = Made(5)
        found = [draws.residue(sizes), draws.noise(sizes), draws.state]
        self.assertEqual(found, [937094784, 1, 2294577901441625132])

    def test_readme(self):
        path = pathlib.Path(__file__).resolve().parent.parent / "README.md"
        found = doctest.testfile(str(path), module_relative=False)
        self.assertEqual(found.failed, 0)
        self.assertGreater(found.attempted, 0)


if __name__ == "__main__":
    unittest.main()
