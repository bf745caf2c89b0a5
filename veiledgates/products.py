"""Products of polynomials two ways, and the digit polynomials."""

from veiledgates.checks import check_alike
from veiledgates.polys import Poly
from veiledgates.residues import digits
from veiledgates.rows import packed_row_product, plain_row_product


def plain_product(one, other):
    """Return the product of two polynomials by sums of products of numbers."""
    check_alike(one, other)
    return Poly(one.sizes, plain_row_product(one.numbers(), other.numbers(), one.sizes.modulus))


def packed_product(one, other):
    """Return the product of two polynomials by one product of great numbers."""
    check_alike(one, other)
    return Poly(one.sizes, packed_row_product(one.numbers(), other.numbers(), one.sizes.modulus))


def digit_polys(poly):
    """Return the list of the l digit polynomials, those of the lowest digits first."""
    sizes = poly.sizes
    rows = [digits(number, sizes) for number in poly.numbers()]
    return [Poly(sizes, [row[place] for row in rows]) for place in range(sizes.places)]
