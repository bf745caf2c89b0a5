"""How a cover is refreshed by public tables, step by step."""

from veiledgates.checks import check_alike
from veiledgates.picking import picked
from veiledgates.residues import rounded
from veiledgates.rings import RingCover


def rounded_cover(cover):
    """Return the pair of the list of the rounded mask and the rounded body."""
    mask = [rounded(number, cover.sizes) for number in cover.mask()]
    return mask, rounded(cover.body, cover.sizes)


def rotated(public, cover):
    """Return the start for the rounded body, picked by each selector with its rounded number of the mask."""
    check_alike(public, cover)
    mask, body = rounded_cover(cover)
    ring = RingCover.start(cover.sizes, body)
    for at, number in enumerate(mask):
        ring = picked(public.selector(at), ring, number)
    return ring


def extracted(ring):
    """Return the pair of the list of the N numbers of the mask and the body."""
    numbers = ring.first.numbers()
    # Behind the first number come the negatives of the others, the last one first.
    others = [-number % ring.sizes.modulus for number in numbers[:0:-1]]
    return [numbers[0]] + others, ring.second.numbers()[0]


def refreshed(public, cover):
    """Return a cover refreshed by public tables."""
    mask, body = extracted(rotated(public, cover))
    return public.switch.led(mask, body)
