"""The five numbers on which everything else is built."""

from veiledgates.checks import is_number
from veiledgates.errors import BadSizes


def _is_power_of_two(value, least, most):
    return is_number(value, least, most) and (value & (value - 1)) == 0


def _check_fields(length, ring, base, places, spread):
    if not is_number(length, 1, 8):
        raise BadSizes("length")
    if not _is_power_of_two(ring, 4, 32):
        raise BadSizes("ring")
    if not _is_power_of_two(base, 4, 65536):
        raise BadSizes("base")
    if not is_number(places, 1, 8):
        raise BadSizes("places")
    if not is_number(spread, 0, 1000):
        raise BadSizes("spread")


def _modulus_of(base, places):
    modulus = 1
    for _ in range(places):
        modulus = modulus * base
    return modulus


class Sizes:
    """The length n, the ring N, the base B, the places l and the spread e."""

    def __init__(self, length, ring, base, places, spread):
        _check_fields(length, ring, base, places, spread)
        modulus = _modulus_of(base, places)
        if modulus < 16 * ring:
            raise BadSizes("modulus")
        self.length = length
        self.ring = ring
        self.base = base
        self.places = places
        self.spread = spread
        self._modulus = modulus

    @property
    def modulus(self):
        """The modulus q."""
        return self._modulus

    @property
    def eighth(self):
        """An eighth of the modulus, which is one level."""
        return self._modulus // 8

    @property
    def limit(self):
        """The limit W, the most noise that a refreshed cover can have."""
        return self.places * self.ring * (self.base // 2) * self.spread * (2 * self.length + 1)

    @property
    def leading(self):
        """The most noise that a cover gains when it is led to another key."""
        return self.length * self.places * (self.base // 2) * self.spread

    @property
    def roomy(self):
        """Whether the sizes are roomy."""
        needed = 24 * self.limit * self.ring + 2 * self._modulus * (self.length + 1)
        return needed < self._modulus * self.ring

    def __eq__(self, other):
        return (
            isinstance(other, Sizes)
            and self.length == other.length
            and self.ring == other.ring
            and self.base == other.base
            and self.places == other.places
            and self.spread == other.spread
        )

    def __str__(self):
        return f"{self.length} {self.ring} {self.base} {self.places} {self.spread}"

    def __repr__(self):
        return f"Sizes({self.length}, {self.ring}, {self.base}, {self.places}, {self.spread})"
