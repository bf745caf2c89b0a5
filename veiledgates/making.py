"""Making: the net of a program."""

from veiledgates.blocks import Blocks
from veiledgates.gates import Gates
from veiledgates.shortening import shortened


def net_of(program, *, short=True):
    """Return the short made net of a program, or the made one."""
    width = program.width
    gates = Gates(width * program.many_inputs)
    bits = gates.input_bits()
    inputs = [bits[at:at + width] for at in range(0, len(bits), width)]
    outputs = program.outputs_made(inputs, Blocks(gates, width))
    made = gates.net_with([bit for word in outputs for bit in word])
    return shortened(made) if short else made
