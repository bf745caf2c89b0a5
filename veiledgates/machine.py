"""The machine: in plain, as a net of one step, and with all of its state covered."""

from veiledgates.blocks import Blocks
from veiledgates.checks import check_bits, is_number
from veiledgates.covers import Cover, check_covers
from veiledgates.errors import InvalidNumber, InvalidText
from veiledgates.gates import Gates
from veiledgates.orders import touches_for
from veiledgates.reading import rows_below_head, split_text
from veiledgates.runner import Runner, check_allowed
from veiledgates.texts import written_number
from veiledgates.words import bits_of, check_words, is_word, words_of

LEAST_WIDTH = 3
MOST_WIDTH = 4
MOST_RUN = 20

# Texts with more steps cannot be read.
MOST_STEPPED = 9999

LOAD = 0
ADD = 1
STORE = 2


def _check_width(width):
    if not is_number(width, LEAST_WIDTH, MOST_WIDTH):
        raise InvalidNumber(width)


def _many_cells(width):
    return 1 << (width - 2)


def _many_bits(width):
    """Return the number of the state bits."""
    return width - 2 + width + width * _many_cells(width)


def _check_state(width, counter, hand, cells):
    _check_width(width)
    if not is_number(counter, 0, _many_cells(width) - 1):
        raise InvalidNumber(counter)
    if not is_word(hand, width):
        raise InvalidNumber(hand)
    check_words(cells, _many_cells(width), width)


def plain_step(width, counter, hand, cells):
    """Return the tuple of the counter, the word at hand and the list of the cells behind a step."""
    _check_state(width, counter, hand, cells)
    many = _many_cells(width)
    deed = cells[counter] // many
    address = cells[counter] % many
    behind = (counter + 1) % many
    if deed == LOAD:
        return behind, cells[address], list(cells)
    if deed == ADD:
        return behind, (hand + cells[address]) % (1 << width), list(cells)
    if deed == STORE:
        return behind, hand, [hand if at == address else cell for at, cell in enumerate(cells)]
    return address if hand == 0 else behind, hand, list(cells)


def state_bits(width, counter, hand, cells):
    """Return the list of the state bits of a state."""
    _check_state(width, counter, hand, cells)
    return bits_of([counter], width=width - 2) + bits_of([hand, *cells], width=width)


def state_of(width, bits):
    """Return the tuple of the counter, the word at hand and the list of the cells with state bits."""
    _check_width(width)
    check_bits(bits, _many_bits(width))
    counters = words_of(bits[:width - 2], width=width - 2)
    hand, *cells = words_of(bits[width - 2:], width=width)
    return counters[0], hand, cells


def _stepped_bits(width, blocks, bits):
    """Return the list of the state bits behind a step, as bits of gates."""
    gates = blocks.gates
    counter = bits[:width - 2]
    words = [bits[at:at + width] for at in range(width - 2, len(bits), width)]
    hand, *cells = words
    word = blocks.item(cells, counter)
    address = word[:width - 2]
    low, high = word[width - 2:]
    found = blocks.item(cells, address)
    taken = blocks.chosen_word(low, blocks.summed_word(hand, found, 0), found)
    is_store = gates.both(high, low ^ 1)
    is_jump = gates.both(gates.both(high, low), blocks.any_bit(hand) ^ 1)
    ahead = blocks.summed_word(counter, [0] * len(counter), 1)
    new_cells = [
        blocks.chosen_word(gates.both(is_store, blocks.is_at(address, at)), hand, cell)
        for at, cell in enumerate(cells)
    ]
    found_words = [blocks.chosen_word(is_jump, address, ahead), blocks.chosen_word(high, hand, taken), *new_cells]
    return [bit for row in found_words for bit in row]


def step_net(width):
    """Return the step net of a width."""
    _check_width(width)
    gates = Gates(_many_bits(width))
    return gates.net_with(_stepped_bits(width, Blocks(gates, width), gates.input_bits()))


def _read_head(line):
    """Return the pair of the width and the number of steps that the first line of a text tells."""
    words = line.split(" ")
    if len(words) == 3 and words[0] == "machine":
        width = written_number(words[1], LEAST_WIDTH, MOST_WIDTH)
        stepped = written_number(words[2], 0, MOST_STEPPED)
        if width is not None and stepped is not None:
            return width, stepped
    raise InvalidText(0)


class Machine:
    """Covers of the state bits, and public tables to step on them."""

    def __init__(self, public, covers, *, width):
        net = step_net(width)
        check_covers(covers, net.inputs, public.sizes)
        check_allowed(net, public.sizes)
        self.sizes = public.sizes
        self.public = public
        self.width = width
        self._net = net
        self._covers = list(covers)
        # The steps that were done, and those of them that were done by this machine or its twins.
        self._all_steps = 0
        self._own_steps = 0

    @staticmethod
    def resumed(public, text):
        """Return the machine that has a text, without touches."""
        lines, rest = split_text(text)
        width, stepped = _read_head(lines[0] if lines else "")
        sizes = public.sizes
        rows = rows_below_head(lines, rest, [sizes.length + 1] * _many_bits(width), sizes.modulus - 1)
        machine = Machine(public, [Cover(sizes, row[:-1], row[-1]) for row in rows], width=width)
        machine._all_steps = stepped
        return machine

    @property
    def stepped(self):
        """The number of steps that were done."""
        return self._all_steps

    def step(self):
        """Do a step."""
        runner = Runner(self._net, self.public, self._covers)
        runner.run()
        self._covers = runner.outputs()
        self._all_steps += 1
        self._own_steps += 1

    def run(self, steps):
        """Do so many steps."""
        if not is_number(steps, 0, MOST_RUN):
            raise InvalidNumber(steps)
        for _ in range(steps):
            self.step()

    def covers(self):
        """Return the list of the covers of the state bits."""
        return list(self._covers)

    def text(self):
        """Return the line of the width and the steps, and a line for each cover."""
        lines = [f"machine {self.width} {self._all_steps}", *[cover.text() for cover in self._covers]]
        return "".join([f"{line}\n" for line in lines])

    def touches(self):
        """Return the list of the touches of the steps of this machine."""
        wires = list(range(self._net.first_wire(), self._net.wires))
        return touches_for(self.sizes, wires * self._own_steps)

    def twin(self):
        """Return an independent machine in the same state, with its touches."""
        other = Machine(self.public, self._covers, width=self.width)
        other._all_steps = self._all_steps
        other._own_steps = self._own_steps
        return other
