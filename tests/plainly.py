"""Promises 31 to 33 once more, by their words: programs read and reckoned in another way than in the package."""

import re

NO_NAMES = "word in row let set be times end out if".split()
GROUPS = [["=", "<"], ["|"], ["^"], ["&"], ["<<", ">>"], ["+", "-"]]


class Wrong(Exception):
    """A line that is wrong, and why."""


def tokens_of(line):
    """The tokens of a line, by a pattern; None if the line has anything else."""
    if re.search("[^a-z0-9<>+&|^~=()\\[\\], -]", line) or re.search("[a-z]{7}|[0-9]{4}", line):
        return None
    if re.search("(?<![0-9])0[0-9]", line) or ">" in line.replace(">>", ""):
        return None
    return re.findall("[a-z]+|[0-9]+|<<|>>|[^ ]", line)


def is_name(token):
    return token.isalpha() and token not in NO_NAMES


class Parser:
    """All ways to read an expression: from a level and a start to a dict from ends to trees."""

    def __init__(self, row):
        self.row = row
        self.known = {}

    def at(self, place):
        return self.row[place] if place < len(self.row) else ""

    def level(self, level, start):
        if (level, start) not in self.known:
            self.known[level, start] = self.ways(level, start)
        return self.known[level, start]

    def ways(self, level, start):
        if level == 7:
            return self.operand(start)
        if level == 6:
            found = dict(self.level(7, start))
            if self.at(start) in ("~", "-"):
                found.update({end: (self.at(start), tree) for end, tree in self.level(6, start + 1).items()})
            return found
        found = dict(self.level(level + 1, start))
        fresh = dict(found)
        while fresh:
            longer = {}
            for end, tree in fresh.items():
                sign = self.at(end)
                if sign not in GROUPS[level]:
                    continue
                if level == 4:
                    if self.at(end + 1).isdigit():
                        longer[end + 2] = (sign, tree, int(self.at(end + 1)))
                else:
                    for last, right in self.level(level + 1, end + 1).items():
                        longer[last] = (sign, tree, right)
            fresh = {end: tree for end, tree in longer.items() if end not in found}
            found.update(fresh)
        return found

    def operand(self, start):
        token, found = self.at(start), {}
        if token.isdigit():
            return {start + 1: ("number", int(token))}
        if token == "(":
            return self.closed([(start + 1, ())], ")", lambda trees: trees[0])
        if token == "if" and self.at(start + 1) == "(":
            places = [(start + 2, ())]
            for sign in (",", ","):
                places = [(end + 1, trees + (tree,)) for place, trees in places
                          for end, tree in self.level(0, place).items() if self.at(end) == sign]
            return self.closed(places, ")", lambda trees: ("if",) + trees)
        if is_name(token):
            found[start + 1] = ("word", token)
            if self.at(start + 1) == "[":
                found.update(self.closed([(start + 2, ())], "]", lambda trees: ("row", token, trees[0])))
        return found

    def closed(self, places, sign, made):
        return {end + 1: made(trees + (tree,)) for place, trees in places
                for end, tree in self.level(0, place).items() if self.at(end) == sign}


def tree_of(row):
    """The tree of an expression, or None."""
    return Parser(row).level(0, 0).get(len(row))


def parts(tree):
    """All numbers that are operands, and all names with their kinds."""
    numbers, names = [], []
    if tree[0] == "number":
        return [tree[1]], []
    if tree[0] in ("word", "row"):
        names.append((tree[1], tree[0]))
    for part in tree[1:]:
        if isinstance(part, tuple):
            more = parts(part)
            numbers, names = numbers + more[0], names + more[1]
    return numbers, names


def form_of(row):
    """A tuple of the word of a line, its name, its number and its trees, or None."""
    text = " ".join(row)
    for pattern in ("(word|times) ([0-9]+)", "(in) ([a-z]+)", "(row) ([a-z]+) ([0-9]+)", "(end)"):
        match = re.fullmatch(pattern, text)
        if match:
            word, *rest = match.groups()
            name = rest[0] if rest and rest[0].isalpha() else ""
            number = int(rest[-1]) if rest and rest[-1].isdigit() else 0
            return (word, name, number, []) if name == "" or is_name(name) else None
    if row[:1] == ["out"]:
        tree = tree_of(row[1:])
        return tree and ("out", "", 0, [tree])
    if row[:1] == ["let"] and len(row) > 3 and is_name(row[1]) and row[2] == "be":
        tree = tree_of(row[3:])
        return tree and ("let", row[1], 0, [tree])
    if row[:1] == ["set"] and len(row) > 3 and is_name(row[1]) and row[2] == "[":
        for at in range(3, len(row) - 1):
            if row[at:at + 2] == ["]", "be"]:
                trees = [tree_of(row[3:at]), tree_of(row[at + 2:])]
                if None not in trees:
                    return "set", row[1], 0, trees
    return None


class Plain:
    """A program, or Wrong(line, why)."""

    def __init__(self, text):
        if not isinstance(text, str):
            raise Wrong(0, "feed")
        self.lines, self.known, self.open, self.work, self.outputs = [], {}, [], 0, 0
        pieces = text.split("\n")
        for at, piece in enumerate(pieces):
            if at == len(pieces) - 1:
                if piece:
                    raise Wrong(at, "feed")
                if not self.lines or self.open:
                    raise Wrong(at, "missing")
                break
            for why in self.faults(piece):
                raise Wrong(at, why)
            self.enter()

    def faults(self, piece):
        row = tokens_of(piece)
        if row is None:
            yield "sign"
        if len(row) > 30:
            yield "long"
        form = form_of(row)
        if form is None:
            yield "form"
        word, name, number, trees = self.form = form
        self.row = row
        earlier = [line[0] for line in self.lines]
        if (word == "word") == bool(earlier):
            yield "form"
        if word in ("in", "row") and set(earlier) - {"word", "in", "row"} or word == "end" and not self.open:
            yield "form"
        if len(earlier) == 60 or word == "in" and earlier.count("in") == 8 or word == "row" and earlier.count("row") == 4:
            yield "many"
        most = {"word": 8, "row": 8, "times": 16}.get(word)
        numbers = [n for tree in trees for n in parts(tree)[0]]
        if most and not 1 <= number <= most or any(n >= 2 ** self.width for n in numbers):
            yield "number"
        names = [pair for tree in trees for pair in parts(tree)[1]] + ([(name, "row")] if word == "set" else [])
        if any(other not in self.known for other, _ in names):
            yield "unknown"
        if any(self.known[other] != kind for other, kind in names) or word == "let" and self.known.get(name) == "row":
            yield "kind"
        if word in ("in", "row") and name in self.known:
            yield "twice"
        self.now = 1
        for rounds in self.open:
            self.now *= rounds
        if word in ("let", "set", "out", "times") and self.work + self.now > 100:
            yield "work"

    @property
    def width(self):
        return self.lines[0][2]

    def enter(self):
        word, name, number, _ = self.form
        self.lines.append(self.form + (self.row,))
        self.work += self.now if word in ("let", "set", "out", "times") else 0
        self.outputs += self.now if word == "out" else 0
        if word in ("in", "let"):
            self.known[name] = "word"
        if word == "row":
            self.known[name] = "row"
        if word == "times":
            self.open.append(number)
        if word == "end":
            self.open.pop()

    def text(self):
        return "".join(" ".join(line[4]) + "\n" for line in self.lines)

    def inputs(self):
        return [line[1] for line in self.lines if line[0] == "in"]

    def value(self, tree):
        top = 2 ** self.width
        kind, *rest = tree
        if kind == "number":
            return rest[0]
        if kind == "word":
            return self.words[rest[0]]
        if kind == "row":
            return dict(enumerate(self.rows[rest[0]])).get(self.value(rest[1]), 0)
        if kind == "if":
            return self.value(rest[1]) if self.value(rest[0]) else self.value(rest[2])
        if kind in ("<<", ">>"):
            value = self.value(rest[0])
            return value * 2 ** rest[1] % top if kind == "<<" else value // 2 ** rest[1]
        if len(rest) == 1:
            return (-self.value(rest[0]) if kind == "-" else ~self.value(rest[0])) % top
        one, two = map(self.value, rest)
        return {"+": one + two, "-": one - two, "&": one & two, "|": one | two, "^": one ^ two, "=": int(one == two),
                "<": int(one < two)}[kind] % top

    def told(self, words):
        """The triples (line, word of the line, value), in order."""
        self.words = dict(zip(self.inputs(), words))
        self.rows = {line[1]: [0] * line[2] for line in self.lines if line[0] == "row"}
        return list(self.block(0, len(self.lines)))

    def block(self, at, end):
        while at < end:
            word, name, number, trees, _ = self.lines[at]
            if word == "times":
                depth, last = 1, at
                while depth:
                    last += 1
                    depth += {"times": 1, "end": -1}.get(self.lines[last][0], 0)
                for _ in range(number):
                    yield from self.block(at + 1, last)
                at = last
            elif trees:
                value = self.value(trees[-1])
                if word == "let":
                    self.words[name] = value
                if word == "set":
                    index = self.value(trees[0])
                    if index < len(self.rows[name]):
                        self.rows[name][index] = value
                yield at, word, value
            at += 1

    def meaning(self, words):
        return [value for _, word, value in self.told(words) if word == "out"]

    def trace(self, words):
        return [(at, value) for at, _, value in self.told(words)]
