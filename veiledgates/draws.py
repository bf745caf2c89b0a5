"""Draws, which hand out residues and noises: made from a seed, or listed."""

from veiledgates.checks import is_any_number
from veiledgates.errors import BadList, InvalidNumber

# Two to the power 61, minus 1: all states are below it.
STATES = 2305843009213693951
FACTOR = 48271
STEP = 1234577


class Made:
    """Draws that go on from state to state, at first from a seed."""

    def __init__(self, seed):
        if not is_any_number(seed):
            raise InvalidNumber(seed)
        self._state = seed % STATES

    @property
    def state(self):
        """The present state."""
        return self._state

    def _advanced(self):
        self._state = (self._state * FACTOR + STEP) % STATES
        return self._state // 65536

    def residue(self, sizes):
        """Draw a residue, which takes three advances."""
        high = self._advanced()
        middle = self._advanced()
        low = self._advanced()
        return ((high << 90) + (middle << 45) + low) % sizes.modulus

    def noise(self, sizes):
        """Draw a noise, which takes one advance, also if the spread is 0."""
        return self._advanced() % (2 * sizes.spread + 1) - sizes.spread

    def twin(self):
        """Return independent draws that go on in the same way."""
        return Made(self._state)


def _check_listed(value, argument):
    if not isinstance(value, (list, tuple)) or not value:
        raise BadList(argument)
    if not all([is_any_number(item) for item in value]):
        raise BadList(argument)


class Listed:
    """Draws that hand out given numbers and noises, in turn and over again."""

    def __init__(self, numbers, noises):
        _check_listed(numbers, 0)
        _check_listed(noises, 1)
        self._numbers = list(numbers)
        self._noises = list(noises)
        self._next_number = 0
        self._next_noise = 0

    def residue(self, sizes):
        """Draw the next number, modulo q."""
        number = self._numbers[self._next_number]
        self._next_number = (self._next_number + 1) % len(self._numbers)
        return number % sizes.modulus

    def noise(self, sizes):
        """Draw the next noise, held from -e to e."""
        noise = self._noises[self._next_noise]
        self._next_noise = (self._next_noise + 1) % len(self._noises)
        if noise < -sizes.spread:
            return -sizes.spread
        if noise > sizes.spread:
            return sizes.spread
        return noise

    def twin(self):
        """Return independent draws that go on in the same way."""
        other = Listed(self._numbers, self._noises)
        other._next_number = self._next_number
        other._next_noise = self._next_noise
        return other
