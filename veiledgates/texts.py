"""How rows of numbers are written, and how one number is read."""


def spaced(numbers):
    """Return numbers as words with one space between."""
    return " ".join([str(number) for number in numbers])


def with_commas(numbers):
    """Return numbers with a comma and a space between."""
    return ", ".join([str(number) for number in numbers])


def written_residue(word, modulus):
    """Return the residue that a word writes in its one right form, or None."""
    if not word.isascii() or not word.isdigit():
        return None
    # Python reads no number of thousands of figures, and this one cannot stand anyway.
    if len(word) > len(str(modulus)):
        return None
    number = int(word)
    if number >= modulus or str(number) != word:
        return None
    return number
