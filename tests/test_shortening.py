"""Promise 23: shortened nets."""

import itertools
import unittest

from helpers import MODEST, WEIGHINGS, random_net
from veiledgates.nets import Net
from veiledgates.shortening import shortened
from veiledgates.sizes import Sizes
from veiledgates.weighings import Weighing, standard

AND, OR, XOR, NOT, SAME = standard("and"), standard("or"), standard("xor"), Weighing(-1), standard("same")
ROOMY = [Sizes(2, 8, 65536, 2, 1), Sizes(2, 8, 65536, 2, 3), Sizes(1, 8, 65536, 2, 25), Sizes(4, 32, 16, 8, 50)]


def bits_of(many):
    return list(itertools.product((0, 1), repeat=many))


class Shortened(unittest.TestCase):
    def check(self, net, bits=None):
        """Check all that the document says of the shortened net of a net, and return it."""
        short = shortened(net=net)
        self.assertIsInstance(short, Net)
        self.assertEqual([short.inputs, len(short.outputs())], [net.inputs, len(net.outputs())])
        for row in bits or bits_of(net.inputs):
            self.assertEqual(short.plain(row), net.plain(row), (net.text(), row))
        self.assertLessEqual(short.size, net.size)
        first = 2 + short.inputs
        self.assertEqual(short.needed(), list(range(first, short.wires)))
        for weighing, sources in short.steps():
            self.assertTrue(all(source >= 2 for source in sources), short.text())
            self.assertEqual(len(set(weighing.table())), 2, short.text())
        told = [(tuple(weighing.weights()), weighing.shift, sources) for weighing, sources in short.steps()]
        self.assertEqual(len(set(told)), len(told), short.text())
        if net.is_modest():
            self.assertTrue(short.is_modest())
        for sizes in ROOMY:
            if net.allowed(sizes):
                self.assertTrue(short.allowed(sizes))
        return short

    def test_the_sizes_are_roomy(self):
        self.assertTrue(all(sizes.roomy for sizes in ROOMY))

    def test_each_weighing_with_each_choice_of_sources(self):
        for weighing in WEIGHINGS[::3]:
            for sources in itertools.product((0, 1, 2, 3), repeat=len(weighing.weights())):
                self.check(Net(2, [(weighing, sources)], [4]))

    def test_random_nets(self):
        for seed in range(300):
            self.check(random_net(seed, inputs=seed % 4, size=seed % 12, outputs=seed % 6))
        for seed in range(300):
            self.check(random_net(seed, inputs=1 + seed % 4, size=5 + seed % 20, outputs=1 + seed % 9, choices=MODEST))

    def test_random_nets_with_few_weighings_of_their_kind(self):
        for choices in ([AND, NOT], [XOR, NOT], [AND, OR, SAME], [Weighing(2, -2, shift=2), Weighing(-2, 2, shift=-2)],
                        [standard("more"), standard("odd"), NOT], [Weighing(3, 1, shift=1), Weighing(1, 3, shift=-1)],
                        [Weighing(-3), Weighing(2), Weighing(5, shift=4)]):
            for seed in range(60):
                self.check(random_net(seed, inputs=3, size=16, outputs=5, choices=choices))

    def test_random_long_nets(self):
        for seed in (1, 2):
            net = random_net(seed, inputs=10, size=2000, outputs=40, choices=MODEST)
            self.check(net, [[(seed + k * k + j) % 7 % 2 for j in range(10)] for k in range(12)])

    def test_constants_are_taken_up(self):
        # Both, with one bit known to be 1, is the other bit; any, with one bit known to be 1, is 1.
        short = self.check(Net(2, [(AND, (2, 1)), (AND, (0, 3)), (OR, (3, 1)), (OR, (0, 2))], [4, 5, 6, 7]))
        self.assertEqual([short.size, short.outputs()], [0, [2, 0, 1, 2]])

    def test_constants_leave_fewer_weights(self):
        short = self.check(Net(2, [(standard("more"), (2, 1, 3))], [4]))
        self.assertEqual([short.size, len(short.weighing(4).weights())], [1, 2])

    def test_constants_that_come_of_weighings(self):
        short = self.check(Net(2, [(NOT, (0,)), (AND, (4, 2)), (XOR, (5, 5)), (OR, (6, 3)), (AND, (7, 2))], [8, 6]))
        self.assertEqual([short.size, short.outputs()[1]], [1, 0])

    def test_weighings_that_tell_a_source_itself(self):
        short = self.check(Net(2, [(SAME, (2,)), (NOT, (4,)), (NOT, (5,)), (AND, (6, 6)), (OR, (7, 4))], [8]))
        self.assertEqual([short.size, short.outputs()], [0, [2]])

    def test_equal_weighings_are_done_once(self):
        short = self.check(Net(2, [(AND, (2, 3)), (AND, (2, 3)), (AND, (3, 2)), (XOR, (4, 5))], [4, 5, 6, 7]))
        self.assertEqual(short.size, 1)

    def test_outputs_of_the_other_bit(self):
        short = self.check(Net(1, [(NOT, (2,)), (Weighing(-3), (2,)), (Weighing(1, shift=4), (2,))], [3, 4, 5, 3, 2]))
        self.assertEqual([short.size, short.outputs()], [1, [3, 3, 3, 3, 2]])
        nand = Weighing(-1, -1, shift=1)
        short = self.check(Net(2, [(AND, (2, 3)), (nand, (2, 3)), (NOT, (4,))], [4, 5, 6]))
        self.assertEqual(short.size, 2)
        short = self.check(Net(2, [(AND, (2, 3)), (nand, (2, 3)), (NOT, (4,))], [6, 5]))
        self.assertEqual(short.size, 1)

    def test_what_is_not_needed_goes(self):
        short = self.check(Net(2, [(AND, (2, 3)), (OR, (2, 3)), (XOR, (4, 3))], [5]))
        self.assertEqual([short.size, short.outputs()], [1, [4]])
        self.assertEqual(self.check(Net(2, [(AND, (2, 3))], [])).size, 0)
        self.assertEqual(self.check(Net(2, [(AND, (2, 3))], [0, 1, 3, 2])).outputs(), [0, 1, 3, 2])

    def test_small_nets(self):
        for net in (Net(0, [], []), Net(64, [], []), Net(0, [(NOT, (0,)), (NOT, (1,)), (XOR, (2, 3))], [4, 3, 2, 0])):
            self.assertEqual(self.check(net, [[1] * net.inputs]).size, 0)

    def test_the_net_stays(self):
        net = random_net(5, inputs=3, size=12, outputs=4)
        before = net.text()
        self.assertEqual(shortened(net), shortened(Net.read(before)))
        self.assertEqual(net.text(), before)


if __name__ == "__main__":
    unittest.main()
