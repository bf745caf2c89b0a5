"""Programs: lines over words, read from a text, and their plain meaning."""

from veiledgates.errors import BadLine
from veiledgates.lines import line_of
from veiledgates.performing import Performance, PlainReckoner
from veiledgates.scanning import tokens
from veiledgates.texts import spaced
from veiledgates.words import Word, check_words, is_width, is_word

MOST_TOKENS = 30
MOST_LINES = 60
MOST_WORK = 100
MOST_ITEMS = 8
MOST_ROUNDS = 16

# How many lines there may be of the words that stand ahead of all others.
MOST_HEADS = {"in": 8, "row": 4}
WORKING = ("let", "set", "out", "times")


class Draft:
    """A program while its text is read, line by line."""

    def __init__(self):
        self.lines = []
        self.texts = []
        self.width = 0
        # The work of all lines so far, and that of the lines out alone.
        self.effort = 0
        self.results = 0
        # From each name that is known to what it is: a word or a row.
        self._kinds = {}
        # The K of each line times that is open.
        self._open = []

    def is_whole(self):
        """Tell whether nothing is missing behind the lines so far."""
        return len(self.lines) > 0 and not self._open

    def take_line(self, piece):
        """Take up the next line, and return the word for what is wrong with it, or an empty string."""
        row = tokens(piece)
        if row is None:
            return "sign"
        if len(row) > MOST_TOKENS:
            return "long"
        line = line_of(row)
        if line is None or not self._may_stand(line):
            return "form"
        why = self._wrong_with(line)
        if why == "":
            self._enter(line)
            self.texts.append(spaced(row))
        return why

    def _may_stand(self, line):
        """Tell whether a line may stand behind the lines so far."""
        if (line.word == "word") != (not self.lines):
            return False
        if line.word in MOST_HEADS:
            return self.lines[-1].word == "word" or self.lines[-1].word in MOST_HEADS
        return line.word != "end" or len(self._open) > 0

    def _wrong_with(self, line):
        if self._is_one_too_many(line):
            return "many"
        if not self._has_right_numbers(line):
            return "number"
        named = [(name, kind) for kind, name in line.all_steps() if kind in ("word", "row")]
        if line.word == "set":
            named.append((line.name, "row"))
        if not all([name in self._kinds for name, _ in named]):
            return "unknown"
        if line.word == "let" and line.name in self._kinds:
            named.append((line.name, "word"))
        if not all([self._kinds[name] == kind for name, kind in named]):
            return "kind"
        if line.word in MOST_HEADS and line.name in self._kinds:
            return "twice"
        if line.word in WORKING and self.effort + self._rounds() > MOST_WORK:
            return "work"
        return ""

    def _is_one_too_many(self, line):
        if len(self.lines) == MOST_LINES:
            return True
        alike = [other for other in self.lines if other.word == line.word]
        return line.word in MOST_HEADS and len(alike) == MOST_HEADS[line.word]

    def _has_right_numbers(self, line):
        if line.word == "word":
            return is_width(line.number)
        if line.word == "row":
            return 1 <= line.number <= MOST_ITEMS
        if line.word == "times":
            return 1 <= line.number <= MOST_ROUNDS
        return all([is_word(value, self.width) for kind, value in line.all_steps() if kind == "number"])

    def _rounds(self):
        """Return how often a line is performed that stands next."""
        many = 1
        for number in self._open:
            many = many * number
        return many

    def _enter(self, line):
        if line.word == "word":
            self.width = line.number
        if line.word in WORKING:
            self.effort += self._rounds()
        if line.word == "out":
            self.results += self._rounds()
        if line.word in ("in", "let"):
            self._kinds[line.name] = "word"
        elif line.word == "row":
            self._kinds[line.name] = "row"
        elif line.word == "times":
            self._open.append(line.number)
        elif line.word == "end":
            self._open.pop()
        self.lines.append(line)


def _draft_of(text):
    """Return the draft of a whole program with a text."""
    if not isinstance(text, str):
        raise BadLine(0, "feed")
    pieces = text.split("\n")
    feeds = len(pieces) - 1
    draft = Draft()
    for at, piece in enumerate(pieces[:-1]):
        why = draft.take_line(piece)
        if why != "":
            raise BadLine(at, why)
    if pieces[-1] != "":
        raise BadLine(feeds, "feed")
    if not draft.is_whole():
        raise BadLine(feeds, "missing")
    return draft


class Program:
    """A program; it never changes."""

    def __init__(self, text):
        draft = _draft_of(text)
        self.width = draft.width
        self._lines = draft.lines
        self._texts = draft.texts
        self._effort = draft.effort
        self._results = draft.results

    @property
    def many_inputs(self):
        """The number of input words."""
        return len(self.input_names())

    @property
    def many_outputs(self):
        """The number of output words."""
        return self._results

    @property
    def work(self):
        """The work of all lines let, set, out and times."""
        return self._effort

    def input_names(self):
        """Return the list of the names of the input words."""
        return [line.name for line in self._lines if line.word == "in"]

    def text(self):
        """Return the lines, each with its tokens and one space between them."""
        return "".join([f"{line}\n" for line in self._texts])

    def check_inputs(self, words):
        """Raise BadWords unless a value is a list of input words."""
        check_words(words, self.many_inputs, self.width)

    def _told(self, inputs, reckoner):
        """Return the list of the pairs of a line and the word that it tells, for input words and their reckoner."""
        return Performance(self._lines, inputs, reckoner).all_told()

    def _told_plainly(self, words):
        self.check_inputs(words)
        return self._told([Word(word, self.width) for word in words], PlainReckoner(self.width))

    def _outputs_of(self, told):
        """Return the list of the words that lines out tell."""
        return [word for at, word in told if self._lines[at].word == "out"]

    def outputs_made(self, inputs, reckoner):
        """Return the list of the output words that a reckoner makes of input words of its kind."""
        return self._outputs_of(self._told(inputs, reckoner))

    def meaning(self, words):
        """Return the list of the output words for input words."""
        return [word.value for word in self._outputs_of(self._told_plainly(words))]

    def trace(self, words):
        """Hand out a pair of a line and its word for each line let, set and out that is performed."""
        for at, word in self._told_plainly(words):
            yield at, word.value

    def __eq__(self, other):
        return isinstance(other, Program) and self._texts == other._texts

    def __str__(self):
        return f"{self.text()}"

    def __repr__(self):
        return f"Program({self.width} bits, {self.many_inputs} inputs, {self._results} outputs)"
