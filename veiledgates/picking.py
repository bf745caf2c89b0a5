"""How a selector picks a ring cover or the turned one."""

from veiledgates.checks import check_alike
from veiledgates.polys import Poly
from veiledgates.products import digit_polys
from veiledgates.rings import RingCover


def combined(selector, ring):
    """Return a selector combined with a ring cover."""
    check_alike(selector, ring)
    zero = Poly(ring.sizes, [0] * ring.sizes.ring)
    found = RingCover(zero, zero)
    first_digits = digit_polys(ring.first)
    second_digits = digit_polys(ring.second)
    for at in range(ring.sizes.places):
        one, other = selector.pair(at)
        found = found + one * first_digits[at] + other * second_digits[at]
    return found


def picked(selector, ring, by):
    """Return a ring cover picked by a selector and a number: turned by it for the bit 1, as it was for 0."""
    return ring + combined(selector, ring.turned(by) - ring)
