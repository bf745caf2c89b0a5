"""The deeds and the questions of a desk, by the forms of their lines."""

from veiledgates.checks import is_name
from veiledgates.texts import written_numbers

# No number in a line has more than 9 figures.
MOST_NUMBER = 999999999

# How many names stand in a deed, and how many numbers behind them, where not any number of them may stand there.
MANY_NAMES = {"owner": 1, "job": 3, "hand": 4, "work": 1}
MANY_NUMBERS = {"owner": 1, "hand": 0, "work": 1}

LISTING = ("owners", "programs", "jobs")
ASKING = ("left", "result", "plain")


class Deed:
    """A deed: its line as it was said, its word, and its names, its numbers and its text, where it has such."""

    def __init__(self, line, word, names, *, numbers=(), text=""):
        self.line = line
        self.word = word
        self.named = list(names)
        self.amounts = list(numbers)
        self.rest = text


def _program_deed(line):
    _, _, behind = line.partition(" ")
    name, space, text = behind.partition(" ")
    if space == "" or not is_name(name):
        return None
    return Deed(line, "program", [name], text=text.replace(";", "\n"))


def deed_of(value):
    """Return the deed whose form any value has, or None."""
    if not isinstance(value, str) or "\n" in value:
        return None
    word, *words = value.split(" ")
    if word == "program":
        return _program_deed(value)
    if word not in MANY_NAMES:
        return None
    many = MANY_NAMES[word]
    names = words[:many]
    numbers = written_numbers(words[many:], 0, MOST_NUMBER)
    if len(names) < many or numbers is None or not all([is_name(name) for name in names]):
        return None
    if len(numbers) != MANY_NUMBERS.get(word, len(numbers)):
        return None
    return Deed(value, word, names, numbers=numbers)


def question_of(line):
    """Return the pair of the word and the name of a question, or None if a line is none."""
    word, space, name = line.partition(" ")
    if word in LISTING and space == "":
        return word, ""
    if word in ASKING and is_name(name):
        return word, name
    return None
