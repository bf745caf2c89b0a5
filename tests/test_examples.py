"""The examples of the document, and those of README.md."""

import doctest
import pathlib
import unittest

from helpers import told
from veiledgates.desk import Desk
from veiledgates.draws import Made
from veiledgates.finding import best_weighing
from veiledgates.keys import Key
from veiledgates.machine import plain_step
from veiledgates.nets import Net
from veiledgates.polys import Poly
from veiledgates.programs import Program
from veiledgates.residues import centered, digits, rounded, whole
from veiledgates.runner import Runner
from veiledgates.sizes import Sizes
from veiledgates.weighings import standard

NET = "net 2\nweigh -1 1 2 1 3\nweigh 0 -1 4\noutputs 5 2\n"


class Examples(unittest.TestCase):
    def test_sizes(self):
        sizes = Sizes(2, 8, 65536, 2, 1)
        found = [sizes.modulus, sizes.limit, sizes.leading, sizes.roomy, str(sizes)]
        self.assertEqual(found, [4294967296, 2621440, 131072, True, "2 8 65536 2 1"])

    def test_bad_sizes(self):
        self.assertEqual(told(Sizes, 2, 8, 65536, 2, 1001), ("BadSizes", {"field": "spread"}))

    def test_residues(self):
        sizes = Sizes(1, 4, 16, 2, 0)
        found = [centered(200, sizes), digits(200, sizes), whole([-8, -3], sizes), rounded(200, sizes)]
        self.assertEqual(found, [-56, [-8, -3], 200, 6])

    def test_polynomials(self):
        sizes = Sizes(1, 4, 16, 2, 0)
        poly = Poly(sizes, [1, 2, 0, 0])
        found = [(poly * Poly(sizes, [0, 0, 0, 1])).numbers(), poly.turned(-1).numbers(), poly.turned(8) == poly,
                 abs(-poly)]
        self.assertEqual(found, [[254, 0, 0, 1], [2, 0, 0, 255], True, 2])

    def test_draws(self):
        sizes = Sizes(2, 8, 65536, 2, 1)
        draws = Made(5)
        found = [draws.residue(sizes), draws.noise(sizes), draws.state]
        self.assertEqual(found, [937094784, 1, 2294577901441625132])

    def test_weighings(self):
        more = standard("more")
        found = [more.table(), more.level((1, 0, 0)), more.margin((1, 1, 0)), standard("odd").table()]
        self.assertEqual(found, [(0, 0, 0, 1, 0, 1, 1, 1), 7, 1, (0, 1, 1, 0, 1, 0, 0, 1)])

    def test_weighings_that_sizes_allow(self):
        near = Sizes(2, 8, 65536, 2, 25)
        far = Sizes(2, 8, 65536, 2, 26)
        found = [standard("and").allowed(near), standard("and").allowed(far), standard("xor").allowed(far),
                 standard("and").first_refused(far)]
        self.assertEqual(found, [True, False, True, (0, 0)])

    def test_best_weighings(self):
        best = best_weighing((0, 0, 0, 1), most=1)
        found = [best.weights(), best.shift, best_weighing((0, 0, 0, 1, 1, 0, 1, 0), most=3)]
        self.assertEqual(found, [[-1, -1], -3, None])

    def test_nets(self):
        net = Net.read(NET)
        found = [net.plain([1, 1]), net.plain_wires([0, 1]), list(net.lots()), net.size, net.wires]
        self.assertEqual(found, [[0, 1], [0, 1, 0, 1, 0, 1], [[4], [5]], 2, 6])

    def test_runners(self):
        sizes = Sizes(2, 8, 65536, 2, 1)
        draws = Made(11)
        key = Key.drawn(sizes, draws=draws)
        public = key.public_tables(draws=draws)
        runner = Runner(Net.read(NET), public, [key.fresh(1, draws=draws), key.fresh(1, draws=draws)])
        done = runner.run()
        found = [done, key.opened(runner.cover(4)), key.opened(runner.cover(5)),
                 key.noise_at(runner.cover(5), 7) <= sizes.limit, len(runner.touches())]
        self.assertEqual(found, [[4, 5], 1, 0, True, 38])

    def test_programs(self):
        program = Program("word 3\nin a\nrow r 2\nset r[1] be a+a\ntimes 2\nlet a be if(a < r[1], a + 1, r[0])\nend\nout a\n"
                          "out r[1] >> 1\n")
        found = [program.meaning([3]), program.meaning([6]), program.work, program.text().split("\n")[3]]
        self.assertEqual(found, [[5, 3], [1, 2], 6, "set r [ 1 ] be a + a"])

    def test_bad_lines(self):
        self.assertEqual(told(Program, "word 3\nin a\nlet b be a + c\n"), ("BadLine", {"line": 2, "why": "unknown"}))

    def test_machines(self):
        found = [plain_step(3, 0, 2, [1, 5]), plain_step(3, 1, 0, [2, 6])]
        self.assertEqual(found, [(1, 5, [1, 5]), (0, 0, [2, 6])])

    def test_desks(self):
        desk = Desk(Sizes(2, 8, 65536, 2, 1))
        done = desk.do("owner ann 7", "owner bob 8", "program inc word 2;in a;out a + 1;", "job one ann inc 2", "work one 999999999",
                       "hand two one bob inc", "work two 999999999")
        found = [desk("result one"), desk("result two"), desk("plain two"), desk("left two"), desk("jobs"), desk("result six")]
        self.assertEqual([done, found], [["done"] * 7, ["3", "0", "0", "0", "one two", "error NoName"]])

    def test_readme(self):
        path = pathlib.Path(__file__).resolve().parent.parent / "README.md"
        found = doctest.testfile(str(path), module_relative=False)
        self.assertEqual(found.failed, 0)
        self.assertGreater(found.attempted, 0)


if __name__ == "__main__":
    unittest.main()
