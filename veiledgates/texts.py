"""How rows of numbers are written, and how one number is read."""

# No number that can stand in any text has more figures, and Python reads none of thousands of figures.
MOST_FIGURES = 60


def spaced(items):
    """Return numbers and strings as words with one space between."""
    return " ".join([str(item) for item in items])


def with_commas(numbers):
    """Return numbers with a comma and a space between."""
    return ", ".join([str(number) for number in numbers])


def written_number(word, least, most):
    """Return the number from least to most that a word writes in its one right form, or None."""
    figures = word.removeprefix("-")
    if not figures.isascii() or not figures.isdigit() or len(figures) > MOST_FIGURES:
        return None
    number = int(word)
    if str(number) != word or not least <= number <= most:
        return None
    return number


def written_numbers(words, least, most):
    """Return the list of the numbers that words write, or None if one word cannot stand."""
    numbers = [written_number(word, least, most) for word in words]
    return None if None in numbers else numbers
