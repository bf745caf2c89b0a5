"""Promise 2 over the whole program: each name of the interface stands in its module, with its parameters, and calls by
names, in lists or tuples, and with unlike sizes do what the document says."""

import ast
import importlib
import inspect
import pathlib
import unittest

from helpers import TINY, USUAL, drawn, each_other_sizes, some_cover, told
from veiledgates import errors
from veiledgates.covers import Cover
from veiledgates.draws import Listed, Made
from veiledgates.keys import Key
from veiledgates.nets import Net
from veiledgates.picking import combined, picked
from veiledgates.polys import Poly
from veiledgates.products import packed_product, plain_product
from veiledgates.refreshing import refreshed, rotated
from veiledgates.rings import RingCover
from veiledgates.workers import joined, judge, worked

FOLDER = pathlib.Path(__file__).resolve().parent.parent / "veiledgates"

# What a line begins with: `def` for a function, `class` for a class with its parameters, `.` for a method of the class
# above, `static` for a static method, `property` for a property.
INTERFACE = """
checks
def is_number(value, least, most)
def is_bit(value)
def is_name(value)
def check_bits(value, many)
def all_rows(many)
sizes
class Sizes(length, ring, base, places, spread)
property modulus eighth limit leading roomy
. __eq__(other)
. __str__()
. __repr__()
residues
def centered(value, sizes)
def digits(value, sizes)
def whole(row, sizes)
def rounded(value, sizes)
polys
class Poly(sizes, numbers)
. numbers()
. centered_numbers()
. turned(by)
. greatest()
. __abs__()
. __add__(other)
. __sub__(other)
. __neg__()
. __mul__(other)
. __eq__(other)
. __repr__()
static one_number(sizes, value, at=0)
products
def plain_product(one, other)
def packed_product(one, other)
def digit_polys(poly)
draws
class Made(seed)
property state
. residue(sizes)
. noise(sizes)
. twin()
class Listed(numbers, noises)
. residue(sizes)
. noise(sizes)
. twin()
covers
class Cover(sizes, mask, body)
. mask()
. shifted(level)
. __add__(other)
. __sub__(other)
. __neg__()
. __mul__(other)
. __eq__(other)
. text()
. __str__()
static read(sizes, text)
static constant(sizes, bit)
rings
class RingCover(first, second)
. turned(by)
. __add__(other)
. __sub__(other)
. __neg__()
. __mul__(other)
. __eq__(other)
static start(sizes, number)
tables
class Selector
. pair(at)
. __eq__(other)
class Switch
. cover(at, place)
. led(numbers, body)
. moved(cover)
. __eq__(other)
class Public
. selector(at)
. text()
. __eq__(other)
static read(text)
keys
class Key(sizes, bits, poly_bits)
. bits()
. poly_bits()
. __eq__(other)
. text()
static read(text)
static drawn(sizes, *, draws)
. cover_of(number, *, draws)
. fresh(bit, *, draws)
. ring_zero(*, draws)
. selector_of(bit, *, draws)
. switch_from(bits, *, draws)
. public_tables(*, draws)
. phase(cover)
. opened(cover)
. noise_at(cover, level)
. ring_phase(ring)
picking
def combined(selector, ring)
def picked(selector, ring, by)
refreshing
def rounded_cover(cover)
def rotated(public, cover)
def extracted(ring)
def refreshed(public, cover)
weighings
class Weighing(*weights, shift=0)
property total
. weights()
. level(row)
. answer(row)
. margin(row)
. table()
. is_total()
. is_modest()
. allowed(sizes)
. first_refused(sizes)
. __eq__(other)
. __repr__()
def weighing_of(weights, *, shift=0)
def standard(word)
def weighted_sum(weighing, covers)
def weighed(public, weighing, covers)
finding
def best_weighing(table, *, most)
def refusal(table, *, most)
nets
class Net(inputs, steps, outputs)
property size wires
. steps()
. outputs()
. weighing(wire)
. sources(wire)
. depth(wire)
. plain(bits)
. plain_wires(bits)
. needed()
. lots()
. allowed(sizes)
. is_modest()
. text()
. __str__()
. __eq__(other)
. __repr__()
static read(text)
shortening
def shortened(net)
runner
class Runner(net, public, covers)
property done left
. do(wire)
. run(*, order=None, stop=None)
. tried(order)
. cover(wire)
. outputs()
. covers()
. touches()
. text()
. twin()
. __repr__()
static resumed(net, public, text)
workers
def worked(net, public, known, order)
def joined(*parts)
def judge(net, public, covers)
def touches_of(net, sizes, order)
ledger
class Ledger(sizes)
. fresh(name)
. fixed(name)
. led(name, source)
. summed(name, weights, sources)
. weighed(name, weighing, sources)
. bound(name)
. is_sure(name)
. names()
. twin()
. __contains__(name)
. __repr__()
words
class Word(value, width)
. bits()
. __add__(other)
. __sub__(other)
. __and__(other)
. __or__(other)
. __xor__(other)
. __neg__()
. __invert__()
. __lt__(other)
. __le__(other)
. __gt__(other)
. __ge__(other)
. __bool__()
. __eq__(other)
. __repr__()
static of_bits(bits)
def bits_of(words, *, width)
def words_of(bits, *, width)
scanning
def tokens(line)
programs
class Program(text)
property many_inputs many_outputs work
. input_names()
. text()
. __str__()
. meaning(words)
. trace(words)
. __eq__(other)
. __repr__()
making
def net_of(program, *, short=True)
covering
def cover_words(key, words, *, width, draws)
def opened_words(key, covers, *, width)
def run_covered(program, key, words, *, draws, short=True)
machine
def plain_step(width, counter, hand, cells)
def state_bits(width, counter, hand, cells)
def state_of(width, bits)
def step_net(width)
class Machine(public, covers, *, width)
property stepped
. step()
. run(steps)
. covers()
. text()
. touches()
. twin()
static resumed(public, text)
desk
class Desk(sizes)
property busy
. say(line)
. __call__(line)
. do(*lines)
. undo()
. journal()
. log()
. public_of(owner)
. runner_of(job)
. text()
. twin()
. __eq__(other)
. __repr__()
static read(text)
"""

PARENTS = {
    "VeilError": ValueError, "Missing": LookupError, "Early": RuntimeError, "NothingLeft": IndexError,
    **dict.fromkeys(["NoName", "NoWire"], "Missing"), "NotReady": "Early",
    **dict.fromkeys("""InvalidName InvalidNumber InvalidText BadSizes BadList BadBits BadWords BadWeighing BadTable BadNet
    BadOutput BadCover BadLine BadDeed TooMany NotAllowed NotRoomy Unlike Twice Clash""".split(), "VeilError"),
}


def parameters(call, inner):
    """The parameters as the document writes them."""
    found = inspect.signature(call)
    kept = list(found.parameters.values())[1 if inner else 0:]
    return str(found.replace(parameters=kept))


class Names(unittest.TestCase):
    def test_each_name_is_defined_in_its_module_with_its_parameters(self):
        module = holder = None
        for line in INTERFACE.strip().split("\n"):
            word, _, rest = line.partition(" ")
            name, bracket, behind = rest.partition("(")
            if not rest:
                module = importlib.import_module(f"veiledgates.{word}")
                tree = ast.parse((FOLDER / f"{word}.py").read_text())
                defined = {node.name for node in tree.body if isinstance(node, (ast.FunctionDef, ast.ClassDef))}
            elif word in ("def", "class"):
                self.assertIn(name, defined)
                held = getattr(module, name)
                if word == "class":
                    holder = held
                if bracket:
                    self.assertEqual(parameters(held.__init__ if word == "class" else held, word == "class"), bracket + behind, line)
            elif word == "property":
                for one in rest.split(" "):
                    self.assertIsInstance(vars(holder)[one], property, line)
            elif word == "static":
                self.assertIsInstance(vars(holder)[name], staticmethod, line)
                self.assertEqual(parameters(getattr(holder, name), False), bracket + behind, line)
            else:
                self.assertEqual(word, ".")
                self.assertIn(name, vars(holder), line)
                self.assertEqual(parameters(vars(holder)[name], True), bracket + behind, line)

    def test_errors(self):
        for name, parent in PARENTS.items():
            held = getattr(errors, name)
            self.assertEqual(held.__bases__, (getattr(errors, parent) if isinstance(parent, str) else parent,))
            many = len(inspect.signature(held.__init__).parameters) - 1 if name not in ("VeilError", "Missing", "Early") else 0
            if name not in ("VeilError", "Missing", "Early"):
                self.assertEqual(held(*[object()] * many).code, name)


class UnlikeSizes(unittest.TestCase):
    def test_all_operators_and_calls(self):
        """Objects whose sizes are not equal, in all places for which objects with sizes are documented."""
        net = Net(1, [], [])
        for one, two in each_other_sizes():
            (key, public), (other_key, other_public) = drawn(one, 1), drawn(two, 2)
            cover, other = some_cover(one, 1), some_cover(two, 1)
            poly, other_poly = Poly(one, [1] * one.ring), Poly(two, [1] * two.ring)
            ring, other_ring = RingCover(poly, poly), RingCover(other_poly, other_poly)
            self.assertEqual(other_key.sizes, two)
            switch = key.switch_from(key.bits(), draws=Made(1))
            calls = [
                lambda: poly + other_poly, lambda: poly - other_poly, lambda: poly * other_poly, lambda: cover + other,
                lambda: cover - other, lambda: ring + other_ring, lambda: ring - other_ring, lambda: ring * other_poly,
                lambda: RingCover(poly, other_poly), lambda: plain_product(poly, other_poly), lambda: packed_product(poly, other_poly),
                lambda: switch.moved(other), lambda: key.phase(other), lambda: key.opened(other), lambda: key.noise_at(other, 1),
                lambda: key.noise_at(other, None), lambda: key.ring_phase(other_ring), lambda: combined(public.selector(0), other_ring),
                lambda: picked(public.selector(0), other_ring, 3), lambda: rotated(public, other), lambda: refreshed(public, other),
                lambda: refreshed(other_public, cover), lambda: worked(net, public, {2: other}, None),
                lambda: joined({2: cover}, {2: other}), lambda: judge(net, public, {99: other}),
            ]
            for at, call in enumerate(calls):
                self.assertEqual(told(call), ("Unlike", {}), at)
            # Equality is asked without an error.
            self.assertFalse(cover == other or poly == other_poly or ring == other_ring or public == other_public)


class Draws(unittest.TestCase):
    def test_draws_of_calls_that_raise_errors_do_not_advance(self):
        key = drawn(USUAL, 1)[0]
        for draws in (Made(3), Listed([1, 2, 3], [0, 1])):
            twin = draws.twin()
            for call in (lambda: key.fresh(2, draws=draws), lambda: key.fresh(True, draws=draws), lambda: key.selector_of(None, draws=draws),
                         lambda: key.switch_from([0, 1, 2], draws=draws), lambda: key.switch_from([0] * 33, draws=draws)):
                self.assertIsNotNone(told(call))
            self.assertEqual([draws.residue(USUAL), draws.noise(USUAL)], [twin.residue(USUAL), twin.noise(USUAL)])

    def test_draws_are_alike_for_all_calls(self):
        """Equal calls on equal states return equal results."""
        for draws in (Made(3), Listed([1, 2, 3, 10 ** 50], [0, 1])):
            one, other = draws.twin(), draws.twin()
            found = [Key.drawn(USUAL, draws=each) for each in (one, other)]
            self.assertEqual(found[0], found[1])
            self.assertEqual(found[0].public_tables(draws=one), found[1].public_tables(draws=other))
            self.assertEqual(found[0].fresh(1, draws=one), found[1].fresh(1, draws=other))
        self.assertEqual(Cover.constant(TINY, 1), Cover.constant(TINY, 1))


if __name__ == "__main__":
    unittest.main()
