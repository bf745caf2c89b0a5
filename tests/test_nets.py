"""Promises 20, 21 and 22 for nets, and 16 for whole nets, with promise 2 for them."""

import itertools
import types
import unittest

from helpers import (GREAT, MODEST, NO_NUMBERS, NO_STRINGS, USUAL, WEIGHINGS, bent_lines, joined_lines, plain_values,
                     random_net, told)
from veiledgates.nets import Net
from veiledgates.sizes import Sizes
from veiledgates.weighings import Weighing, standard

AND, NOT = standard("and"), Weighing(-1)
TEXT = "net 2\nweigh -1 1 2 1 3\nweigh 0 -1 4\noutputs 5 2\n"


def some_nets():
    nets = [random_net(seed, inputs=seed % 4, size=3 + seed % 9, outputs=seed % 5) for seed in range(40)]
    return nets + [Net(0, [], []), Net(64, [], [65, 0]), Net(0, [(NOT, (0,))], [2, 2, 1]), Net.read(TEXT)]


class Making(unittest.TestCase):
    def test_attributes(self):
        net = Net(2, [(AND, (2, 3)), (NOT, (4,))], [5, 2, 0, 5])
        self.assertEqual([net.inputs, net.size, net.wires], [2, 2, 6])
        self.assertEqual([net.steps(), net.outputs()], [[(AND, (2, 3)), (NOT, (4,))], [5, 2, 0, 5]])
        for name in ("size", "wires"):
            self.assertIsInstance(vars(Net)[name], property)
        net = Net(inputs=0, steps=(), outputs=())
        self.assertEqual([net.inputs, net.size, net.wires, net.steps(), net.outputs()], [0, 0, 2, [], []])

    def test_lists_are_copied(self):
        steps, outputs = [(AND, (2, 3))], [4]
        net = Net(2, steps, outputs)
        steps.append((NOT, (4,)))
        outputs[0] = 0
        net.steps().clear()
        net.outputs().append(9)
        for lot in net.lots():
            lot.clear()
        net.needed().clear()
        net.plain_wires([1, 1]).clear()
        self.assertEqual([net.size, net.wires, net.outputs(), net.steps()], [1, 5, [4], [(AND, (2, 3))]])
        self.assertEqual([net.plain([1, 1]), net.needed(), list(net.lots())], [[1], [4], [[4]]])

    def test_wrong_numbers_of_inputs(self):
        for wrong in [-1, 65, GREAT] + NO_NUMBERS:
            for steps, outputs in (([], []), (None, None)):
                found = told(Net, wrong, steps, outputs)
                self.assertEqual(found, ("InvalidNumber", {"value": wrong}))
                self.assertIs(found[1]["value"], wrong)
        self.assertEqual([Net(many, [], []).wires for many in (0, 64)], [2, 66])

    def test_steps_that_are_no_list(self):
        for wrong in [None, True, 0, "", "ab", {}, {0: 1}, AND, Net(0, [], [])]:
            self.assertEqual(told(Net, 1, wrong, None), ("BadNet", {"wire": -1}))

    def test_wrong_steps(self):
        wrong = NO_NUMBERS + [
            1, AND, (AND,), (AND, (2, 3), 0), [AND, (2, 3)], (AND, [2, 3]), (AND, 2, 3), ((2, 3), AND), (AND, ()),
            (AND, (2,)), (AND, (2, 3, 2)), (AND, (2, -1)), (AND, (2, True)), (AND, (None, 2)), (AND, (2, "3")),
            (AND, {2: 1, 3: 1}), (AND, None), ("and", (2, 3)), ((1, 1), (2, 3)), (None, (2, 3)), (Weighing(1, 1), (2, 3)),
            (Weighing(1, shift=1), (2,)), (AND, (2, GREAT)), (AND, (2, (3,))), ((AND, (2, 3)),),
        ]
        for step in wrong:
            self.assertEqual(told(Net, 2, [step], None), ("BadNet", {"wire": 4}), step)
            self.assertEqual(told(Net, 2, ((AND, (2, 3)), step, None), []), ("BadNet", {"wire": 5}), step)

    def test_sources_stand_below(self):
        for inputs in (0, 3, 64):
            first = 2 + inputs
            for source in range(first):
                self.assertEqual(Net(inputs, [(NOT, (source,))], []).sources(first), (source,))
            for source in (first, first + 1, -1):
                self.assertEqual(told(Net, inputs, [(NOT, (source,))], []), ("BadNet", {"wire": first}))
            self.assertEqual(told(Net, inputs, [(NOT, (0,)), (NOT, (first,)), (NOT, (first + 2,))], []),
                             ("BadNet", {"wire": first + 2}))

    def test_outputs_that_are_no_list(self):
        for wrong in [None, True, 0, "", "ab", {}, {0: 1}, AND]:
            self.assertEqual(told(Net, 1, [(NOT, (2,))], wrong), ("BadOutput", {"at": -1}))

    def test_wrong_outputs(self):
        for wrong in [-1, 4, GREAT] + NO_NUMBERS:
            self.assertEqual(told(Net, 1, [(NOT, (2,))], [wrong]), ("BadOutput", {"at": 0}))
            self.assertEqual(told(Net, 1, [(NOT, (2,))], (0, 3, wrong, wrong)), ("BadOutput", {"at": 2}))

    def test_equality_and_repr(self):
        net = Net.read(TEXT)
        self.assertIs(net == Net(2, ((Weighing(1, 1, shift=-1), (2, 3)), (Weighing(-1), (4,))), (5, 2)), True)
        self.assertIs(net != Net.read(TEXT), False)
        others = ["net 3\nweigh -1 1 2 1 3\nweigh 0 -1 4\noutputs 5 2\n", TEXT.replace("5 2", "2 5"),
                  TEXT.replace("5 2", "5"), TEXT.replace("-1 4", "-1 3"), TEXT.replace("0 -1", "0 1"),
                  TEXT.replace("weigh -1", "weigh 7"), "net 2\nweigh -1 1 2 1 3\noutputs 4\n"]
        for other in [Net.read(text) for text in others] + [None, True, TEXT, AND, USUAL, [], (2,)]:
            self.assertIs(net == other, False)
            self.assertIs(net != other, True)
        self.assertEqual([repr(net), repr(Net(1, [(NOT, (2,))], [3])), repr(Net(0, [], []))],
                         ["Net(2 inputs, 2 weighings, 2 outputs)", "Net(1 inputs, 1 weighings, 1 outputs)",
                          "Net(0 inputs, 0 weighings, 0 outputs)"])


class Wires(unittest.TestCase):
    def test_weighings_and_sources(self):
        for net in some_nets():
            for at, (weighing, sources) in enumerate(net.steps()):
                wire = 2 + net.inputs + at
                self.assertEqual([net.weighing(wire), net.sources(wire=wire)], [weighing, sources])
                self.assertIsInstance(net.sources(wire), tuple)

    def test_wrong_wires(self):
        for net in some_nets():
            no_wires = [-1, net.wires, GREAT, -GREAT] + NO_NUMBERS
            for wrong in no_wires + list(range(2 + net.inputs)):
                for call in (net.weighing, net.sources):
                    found = told(call, wrong)
                    self.assertEqual(found, ("NoWire", {"wire": wrong}))
                    self.assertIs(found[1]["wire"], wrong)
            for wrong in no_wires:
                self.assertEqual(told(net.depth, wrong), ("NoWire", {"wire": wrong}))

    def test_depths_and_lots(self):
        for net in some_nets():
            depths = [0] * (2 + net.inputs)
            for _, sources in net.steps():
                depths.append(1 + max(depths[source] for source in sources))
            self.assertEqual([net.depth(wire=wire) for wire in range(net.wires)], depths)
            lots = [[wire for wire in range(net.wires) if depths[wire] == depth] for depth in range(1, max(depths) + 1)]
            self.assertIsInstance(net.lots(), types.GeneratorType)
            self.assertEqual(list(net.lots()), lots)

    def test_depths_by_hand(self):
        net = Net(1, [(NOT, (2,)), (NOT, (0,)), (AND, (3, 4)), (AND, (2, 5)), (NOT, (1,))], [])
        self.assertEqual([net.depth(wire) for wire in range(8)], [0, 0, 0, 1, 1, 2, 3, 1])
        self.assertEqual(list(net.lots()), [[3, 4, 7], [5], [6]])
        self.assertEqual(list(Net(3, [], [2]).lots()), [])

    def test_needed(self):
        for net in some_nets():
            needed = {wire for wire in net.outputs() if wire >= 2 + net.inputs}
            while True:
                more = {source for wire in needed for source in net.sources(wire) if source >= 2 + net.inputs}
                if more <= needed:
                    break
                needed |= more
            self.assertEqual(net.needed(), sorted(needed))

    def test_needed_by_hand(self):
        net = Net(1, [(NOT, (2,)), (NOT, (3,)), (AND, (3, 0)), (NOT, (2,))], [5, 5, 0])
        self.assertEqual(net.needed(), [3, 5])
        self.assertEqual(Net(1, [(NOT, (2,))], [0, 1, 2]).needed(), [])


class Plain(unittest.TestCase):
    def test_by_its_words(self):
        for net in some_nets():
            if net.inputs > 4:
                continue
            for bits in itertools.product((0, 1), repeat=net.inputs):
                values = plain_values(net, bits)
                self.assertEqual(net.plain_wires(bits), values)
                self.assertEqual(net.plain_wires(bits=list(bits)), values)
                self.assertEqual(net.plain(bits=bits), [values[wire] for wire in net.outputs()])

    def test_by_hand(self):
        net = Net.read(TEXT)
        self.assertEqual([net.plain([1, 1]), net.plain_wires([0, 1])], [[0, 1], [0, 1, 0, 1, 0, 1]])
        self.assertEqual(Net(1, [(AND, (2, 2)), (AND, (1, 2)), (NOT, (0,))], [3, 4, 5, 0]).plain([1]), [1, 1, 1, 0])
        bits = [1, 0] * 32
        self.assertEqual(Net(64, [], [1, 0, 65, 2]).plain(bits), [1, 0, 0, 1])
        self.assertEqual(bits, [1, 0] * 32)

    def test_wrong_bits(self):
        net = Net(3, [(AND, (2, 3))], [5])
        for call in (net.plain, net.plain_wires):
            for wrong in [None, True, 3, "010", {0: 1}, [], (), [0, 1], [0, 1, 0, 1], USUAL]:
                self.assertEqual(told(call, wrong), ("BadBits", {"at": -1}))
            for at in range(3):
                for wrong in [2, -1, GREAT] + NO_NUMBERS:
                    self.assertEqual(told(call, [1] * at + [wrong] * (3 - at)), ("BadBits", {"at": at}))

    def test_modest(self):
        self.assertIs(Net(2, [], []).is_modest(), True)
        for weighing in WEIGHINGS:
            net = Net(2, [(AND, (2, 3)), (weighing, (2,) * len(weighing.weights()))], [])
            self.assertIs(net.is_modest(), weighing.is_modest())
        self.assertTrue(random_net(1, inputs=3, size=30, outputs=1, choices=MODEST).is_modest())

    def test_allowed(self):
        for sizes in (USUAL, Sizes(2, 8, 65536, 2, 25), Sizes(2, 8, 65536, 2, 26), Sizes(3, 8, 16, 6, 0)):
            self.assertIs(Net(2, [], []).allowed(sizes), True)
            for net in some_nets():
                self.assertIs(net.allowed(sizes=sizes), all(weighing.allowed(sizes) for weighing, _ in net.steps()))
            self.assertIs(Net(2, [(standard("xor"), (2, 3)), (AND, (2, 3))], []).allowed(sizes), AND.allowed(sizes))
            self.assertIs(Net(2, [(AND, (2, 3)), (standard("xor"), (2, 3))], []).allowed(sizes), AND.allowed(sizes))


class Texts(unittest.TestCase):
    def test_signs(self):
        self.assertEqual(Net(2, [(AND, (2, 3))], [4]).text(), "net 2\nweigh -1 1 2 1 3\noutputs 4\n")
        self.assertEqual(str(Net.read(TEXT)), TEXT)
        self.assertEqual(Net(0, [], []).text(), "net 0\noutputs\n")
        net = Net(64, [(Weighing(-12, shift=-3), (65,)), (Weighing(1, -2, 3, -4, shift=1), (66, 0, 1, 10))], [0, 67, 0])
        self.assertEqual(net.text(), "net 64\nweigh -3 -12 65\nweigh 1 1 66 -2 0 3 1 -4 10\noutputs 0 67 0\n")

    def test_reading_what_was_written(self):
        for net in some_nets():
            again = Net.read(text=net.text())
            self.assertEqual([again, again.text(), str(again)], [net, net.text(), net.text()])
            self.assertEqual([again.size, again.wires, again.inputs], [net.size, net.wires, net.inputs])

    def test_long_nets(self):
        net = random_net(7, inputs=5, size=3000, outputs=50)
        self.assertEqual(Net.read(net.text()), net)
        self.assertEqual(told(Net.read, net.text() + "\n"), ("InvalidText", {"line": 3002}))

    def bent(self, lines, line):
        found = told(Net.read, joined_lines(lines))
        self.assertEqual(found, line if line is None else ("InvalidText", {"line": line}), lines)

    def test_bent_lines_of_inputs_and_weighings(self):
        for net in some_nets()[:12] + [Net.read(TEXT)]:
            lines = net.text().split("\n")[:-1]
            for at, line in enumerate(lines[:-1]):
                for bent in bent_lines(line):
                    if bent != line + "\n":
                        self.bent(lines[:at] + [bent] + lines[at + 1:], at)
                self.bent(lines[:at + 1] + [""] + lines[at + 1:], at + 1)
                self.bent(lines[:at + 1] + ["net 2"] + lines[at + 1:], at + 1)

    def test_bent_lines_of_outputs(self):
        lines = TEXT.split("\n")[:3]
        for wrong in ("outputs ", "outputs  5", " outputs 5", "outputs 5 ", "outputs 6", "outputs -1", "outputs -0",
                      "outputs 05", "outputs +5", "outputs 5 6", "outputs 5,2", "output 5", "Outputs 5", "outputs a",
                      "outputs5", "", " ", "5", "outputs " + "1" * 5000, "outputs 5\t2", "outputs 5\r", "weigh", "net 2",
                      "outputs outputs", "outputs \u0665", "outputs 5.0", "outputs 1_0"):
            self.bent(lines + [wrong], 3)
        for right in ("outputs", "outputs 0", "outputs 5", "outputs 0 1 2 3 4 5 5 5"):
            self.bent(lines + [right], None)

    def test_lines_of_weighings_that_cannot_stand(self):
        for wrong in ("weigh", "weigh 0", "weigh 0 1", "weigh 0 1 2 1", "weigh 9 1 2", "weigh -9 1 2", "weigh 0 0 2",
                      "weigh 0 -0 2", "weigh -0 1 2", "weigh +1 1 2", "weigh 0 +1 2", "weigh 00 1 2", "weigh 0 01 2",
                      "weigh 0 13 2", "weigh 0 7 2 6 3", "weigh 1 1 2 1 2 1 2 1 2 1 2", "weigh 0 1 4", "weigh 0 1 5",
                      "weigh 0 1 -1", "weigh 0 1 2 1 3", "weigh 1 1 2", "weigh 2 2 2", "weigh 3 1 2", "weigh 4 12 3",
                      "Weigh 0 1 2", "weigh 0 1 2 ", " weigh 0 1 2", "weigh  0 1 2", "weigh 0 1 02", "weigh 0 1 2 0 2",
                      "weigh 0 " + "1" * 5000 + " 2", "weigh 0 1 " + "1" * 5000, "weigh " + "9" * 5000 + " 1 2", "weigh a 1 2",
                      "weigh 0 1 2 # 3", "same 2"):
            self.bent(["net 2", wrong, "outputs 4"], 1)
        for right in ("weigh 0 1 2", "weigh 8 1 2", "weigh -8 -1 0", "weigh 2 12 3", "weigh 1 3 2 3 2 3 2 -3 1",
                      "weigh 1 1 2 1 2 1 2 1 2", "weigh -1 1 3 6 3 -4 3 -1 3", "weigh 2 2 2 2 3"):
            self.bent(["net 2", right, "outputs 4"], None)

    def test_lines_of_inputs_that_cannot_stand(self):
        for wrong in ("net", "net ", "net 65", "net -1", "net -0", "net 00", "net +1", "net 2 2", "Net 2", " net 2", "net  2",
                      "net a", "2", "", "net " + "1" * 5000, "outputs", "weigh 0 1 0", "net 2.0", "nets 2", "net net"):
            self.bent([wrong, "outputs"], 0)
            self.bent([wrong, "nothing"], 0)
        for right in ("net 0", "net 64"):
            self.bent([right, "outputs"], None)

    def test_texts_that_end_too_early_or_too_late(self):
        lines = TEXT.split("\n")[:-1]
        for many in range(4):
            self.bent(lines[:many], many)
            found = told(Net.read, joined_lines(lines[:many]) + lines[many])
            self.assertEqual(found, ("InvalidText", {"line": many}))
            for rest in ("x", " ", "net", "weigh"):
                self.assertEqual(told(Net.read, joined_lines(lines[:many]) + rest), ("InvalidText", {"line": many}))
        for rest in ("", " ", "outputs 5 2", "outputs", "weigh 0 1 2", "net 2", "x"):
            self.bent(lines + [rest], 4)
            self.bent(lines + [rest, rest], 4)
        for rest in (" ", "x", "outputs", "5"):
            self.assertEqual(told(Net.read, TEXT + rest), ("InvalidText", {"line": 4}))
        self.assertEqual(told(Net.read, ""), ("InvalidText", {"line": 0}))
        self.assertEqual(told(Net.read, "\n"), ("InvalidText", {"line": 0}))
        self.assertEqual(told(Net.read, "\n" + TEXT), ("InvalidText", {"line": 0}))

    def test_the_first_wrong_line_counts(self):
        self.bent(["net 2", "weigh 0 1 4", "weigh 0 1 9", "outputs x"], 1)
        self.bent(["net 2", "weigh 0 1 3", "weigh 0 1 5", "outputs x"], 2)
        self.bent(["net 2", "weigh 0 1 3", "outputs 5", "x"], 2)
        # A weighing behind the outputs cannot stand, whatever it is.
        self.bent(["net 2", "outputs 3", "weigh 0 1 3", "outputs 4"], 2)

    def test_values_that_are_no_strings(self):
        for value in NO_STRINGS + [Net.read(TEXT)]:
            self.assertEqual(told(Net.read, value), ("InvalidText", {"line": 0}))


if __name__ == "__main__":
    unittest.main()
