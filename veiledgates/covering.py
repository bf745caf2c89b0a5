"""Covering: words covered and opened under a key, and programs run on covers."""

from veiledgates.covers import check_covers
from veiledgates.errors import BadCover, InvalidNumber
from veiledgates.making import net_of
from veiledgates.runner import Runner, check_allowed
from veiledgates.words import bits_of, is_width, words_of


def cover_words(key, words, *, width, draws):
    """Return the list of the fresh covers of the bits of words."""
    bits = bits_of(words, width=width)
    return [key.fresh(bit, draws=draws) for bit in bits]


def opened_words(key, covers, *, width):
    """Return the list of the words whose bits are those to which covers open."""
    if not is_width(width):
        raise InvalidNumber(width)
    if not isinstance(covers, (list, tuple)) or len(covers) % width != 0:
        raise BadCover(-1)
    check_covers(covers, len(covers), key.sizes)
    return words_of([key.opened(cover) for cover in covers], width=width)


def run_covered(program, key, words, *, draws, short=True):
    """Return the list of the output words of a program that is run on covers."""
    program.check_inputs(words)
    net = net_of(program, short=short)
    # All is checked before anything is drawn, so that an error advances no draws.
    check_allowed(net, key.sizes)
    public = key.public_tables(draws=draws)
    runner = Runner(net, public, cover_words(key, words, width=program.width, draws=draws))
    runner.run()
    return opened_words(key, runner.outputs(), width=program.width)
