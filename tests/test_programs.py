"""Promises 30 to 33: programs, their lines that are refused, and their plain meaning, with promise 2 for them."""

import itertools
import random
import types
import unittest

from helpers import GREAT, NO_NUMBERS, NO_STRINGS, USUAL, joined_lines, random_expression, random_program, told
from plainly import GROUPS, NO_NAMES, Plain, Wrong
from veiledgates.programs import Program

EXAMPLE = ("word 3\nin a\nrow r 2\nset r[1] be a+a\ntimes 2\nlet a be if(a < r[1], a + 1, r[0])\nend\nout a\n"
           "out r[1] >> 1\n")
HEAD = "word 3\nin a\nin b\nrow r 4\n"
# Forms that may stand behind the lines of HEAD.
RIGHT_LINES = ["let a be 1", "let c be a", "set r [ 0 ] be 1", "times 3", "out 1", "out r[r[a]]", "in c", "row s 8",
               "let a be a + b - 1 & 3 | 2 ^ 1 = 0 < 1", "out -~-a", "out ((a))", "out if(a,b,1)", "out a<<999", "out a>>0",
               "out if(if(a,b,1),r[a],~if(1,0,0))", "set r[a=b]be(a<b)", "out a<<2<<3>>1", "times16", "  out(a) ", "out-1"]


def why(text):
    """The pair of the line and the word of BadLine, or None."""
    found = told(Program, text)
    if found is None:
        return None
    name, kept = found
    assert name == "BadLine" and set(kept) == {"line", "why"}, found
    return kept["line"], kept["why"]


def slow_why(text):
    try:
        Plain(text)
    except Wrong as error:
        return error.args
    return None


def meaning(expression, words, width=3):
    """What an expression over a, b and c gives."""
    return Program(f"word {width}\nin a\nin b\nin c\nout {expression}\n").meaning(words)[0]


class Reading(unittest.TestCase):
    def test_attributes(self):
        program = Program(text=EXAMPLE)
        self.assertEqual([program.width, program.many_inputs, program.many_outputs, program.work], [3, 1, 2, 6])
        self.assertEqual([program.input_names(), repr(program)], [["a"], "Program(3 bits, 1 inputs, 2 outputs)"])
        for name in ("many_inputs", "many_outputs", "work"):
            self.assertIsInstance(vars(Program)[name], property)
        program = Program("word8\n")
        self.assertEqual([program.width, program.many_inputs, program.many_outputs, program.work, program.input_names()],
                         [8, 0, 0, 0, []])
        self.assertEqual([program.text(), program.meaning([]), list(program.trace(()))], ["word 8\n", [], []])

    def test_texts(self):
        program = Program(EXAMPLE)
        text = ("word 3\nin a\nrow r 2\nset r [ 1 ] be a + a\ntimes 2\nlet a be if ( a < r [ 1 ] , a + 1 , r [ 0 ] )\n"
                "end\nout a\nout r [ 1 ] >> 1\n")
        self.assertEqual([program.text(), str(program), Program(text).text()], [text] * 3)
        self.assertEqual(Program("  word3\n in   a\nout(a<<3)  \n").text(), "word 3\nin a\nout ( a << 3 )\n")

    def test_equality(self):
        program = Program(EXAMPLE)
        self.assertIs(program == Program(program.text()), True)
        self.assertIs(program != Program(EXAMPLE.replace(" ", "  ")), False)
        others = [Program(EXAMPLE.replace("word 3", "word 4")), Program(EXAMPLE + "out a\n"), None, True, EXAMPLE,
                  program.text(), USUAL, (3,)]
        for other in others:
            self.assertIs(program == other, False)
            self.assertIs(program != other, True)

    def test_lists_are_new(self):
        program = Program(EXAMPLE)
        program.input_names().append("b")
        program.meaning([3]).clear()
        words = [3]
        program.meaning(words)
        list(program.trace(words))
        self.assertEqual([program.input_names(), program.meaning([3]), words, program.text()],
                         [["a"], [5, 3], [3], Program(EXAMPLE).text()])

    def test_all_forms(self):
        for line in RIGHT_LINES:
            text = HEAD + line + "\n" + ("end\n" if line.startswith("times") else "")
            self.assertIsNone(why(text), line)
        # Rows and inputs may stand in any order, and a name of a word or row may be any one but the tokens.
        self.assertEqual(Program("word 1\nrow r 1\nin zzzzzz\nrow inn 8\nin x\n").input_names(), ["zzzzzz", "x"])
        for token in NO_NAMES:
            for line in (f"in {token}", f"row {token} 2", f"let {token} be 1", f"out {token}", f"out {token}[1]",
                         f"set {token}[1] be 1"):
                self.assertEqual(why(f"word 3\n{line}\n"), (1, "form"), line)

    def test_against_a_plain_reading(self):
        """Lines that are bent at any place are refused as the plain reading refuses them."""
        chance = random.Random(5)
        pieces = "a b r s x if ( ) [ ] , + - & | ^ ~ = < << >> 0 1 7 8 16 17 be in out let set word row times end".split()
        found = {}
        for seed in range(3000):
            lines = [line.split(" ") for line in random_program(seed, width=1 + seed % 5).split("\n")[:-1]]
            for _ in range(chance.randrange(3)):
                row = chance.choice(lines)
                at, way = chance.randrange(len(row) + 1), chance.randrange(4)
                row[at:at + (way > 0)] = [chance.choice(pieces)] if way < 3 else []
            if chance.random() < 0.1:
                del lines[chance.randrange(len(lines))]
            text = joined_lines(" ".join(row) for row in lines)[:-1 if chance.random() < 0.02 else None]
            wanted = slow_why(text)
            self.assertEqual(why(text), wanted, text)
            found[wanted and wanted[1]] = True
        self.assertLessEqual({None, "feed", "form", "number", "unknown", "kind", "missing"}, set(found))


class Refusing(unittest.TestCase):
    def both(self, text, wanted):
        """The program is refused so, and the plain reading agrees."""
        self.assertEqual(why(text), wanted, text)
        self.assertEqual(slow_why(text), wanted, text)

    def behind(self, line, wanted, head=HEAD):
        """A line behind a head is refused with a word, or stands."""
        self.both(head + line + "\n", wanted and (head.count("\n"), wanted))

    def test_values_that_are_no_strings(self):
        for value in NO_STRINGS + [Program(EXAMPLE)]:
            self.assertEqual(told(Program, value), ("BadLine", {"line": 0, "why": "feed"}))

    def test_feed(self):
        self.both("word 3", (0, "feed"))
        self.both("word 3\nin a\nout a", (2, "feed"))
        # Whatever stands there, the line feed is what is wrong first.
        for rest in (" ", "A", "a " * 40, "x", "in a", "word 9"):
            self.both(HEAD + rest, (4, "feed"))
        self.both("word 3\nA\nout a", (1, "sign"))

    def test_sign(self):
        for line in ("A", "let a be 1;", "out a > b", "out a >>> 1", "abcdefg", "out abcdefg", "out 1000", "out 00", "out 01",
                     "out a << 007", "in a.", "in\ta", "#", "let a be 'x'", "out \u00e9", "times 02", "{}", "out a*b", "\\"):
            self.behind(line, "sign")
        self.behind("A " * 40, "sign")
        self.both("Word 3\n", (0, "sign"))

    def test_long(self):
        for line, many in (("out " + "-" * 28 + "a", 30), ("out a" + "+a" * 14, 30), ("let a be " + "~" * 26 + "1", 30)):
            self.behind(line, None)
            self.behind(line.replace("a", "(a", 1) if line.startswith("out -") else line + "+", "long")
        self.behind("( " * 31, "long")
        self.behind("( " * 30, "form")
        self.both("a " * 31 + "\n", (0, "long"))

    def test_form(self):
        bent = ["", "   ", "a", "1", "+", "in", "in 1", "in a b", "in a 1", "row", "row s", "row 3", "row s 3 3", "row 3 s",
                "row s a", "let", "let a", "let a be", "let a 1", "let be 1", "let 1 be 1", "let a be 1 1", "let a be be",
                "let r [ 0 ] be 1", "set", "set r", "set r be 1", "set r [ ] be 1", "set r [ 0 be 1", "set r 0 ] be 1",
                "set r [ 0 ] 1", "set r [ 0 ] be", "set r [ 0 ] be 1 1", "set r [ 0 , 1 ] be 1", "set [ 0 ] be 1", "times",
                "times a", "times 2 2", "times ( 2 )", "end", "end 1", "out", "out 1 1", "out a b", "out ( a", "out a )",
                "out ( )", "out a +", "out + a", "out a ~ b", "out ~", "out a < < b", "out a = = b", "out if", "out if a",
                "out if ( a )", "out if ( a , b )", "out if ( a , b , 1", "out if ( a , b , 1 , 1 )", "out if ( , b , 1 )",
                "out r [", "out r [ ]", "out r ] 0 [", "out [ 0 ]", "out r [ 0 , 1 ]", "out r [ 0 ] [ 0 ]", "out 1 [ 0 ]",
                "out a << b", "out a << ( 1 )", "out a <<", "out << 1", "out a << - 1", "out a << 2 + 1", "out a >> 1 - a",
                "out a << 2 [ 0 ]", "out a , b", "word 3", "word", "outs a", "be a", "if ( a , b , 1 )", "a be 1"]
        for line in bent:
            self.behind(line, "form")
        for line in ("in a", "out 1", "", "times 2", "end", "word", "word 3 3", "word a", "a", "row r 2", "let a be 1"):
            self.both(line + "\nword 3\n", (0, "form"))

    def test_numbers_may_have_any_size_in_a_form(self):
        for line in ("word 999", "word 0"):
            self.both(line + "\n", (0, "number"))
        self.behind("times 999", "number")
        self.behind("row s 0", "number")
        self.behind("out 999", "number")

    def test_heads_stand_ahead(self):
        for line in ("let a be 1", "set r [ 0 ] be 1", "times 2", "out 1"):
            for late in ("in c", "row s 2", "in a", "row s 99"):
                self.behind(late, "form", head=HEAD + line + "\n")
            self.behind("in c", "form", head=HEAD + "times 1\nend\n" + line + "\n")

    def test_ends(self):
        self.behind("end", "form", head=HEAD + "times 2\nend\n")
        self.behind("end", "form", head=HEAD + "times 2\ntimes 2\nend\nend\n")
        self.both(HEAD + "times 2\nend\ntimes 3\nend\n", None)

    def test_many_lines(self):
        full = HEAD + "out a\n" * 56
        self.assertEqual(full.count("\n"), 60)
        self.both(full, None)
        self.behind("out a", "many", head=full)
        self.behind("out 9", "many", head=full)
        self.behind("out a +", "form", head=full)
        self.behind("out A", "sign", head=full)
        self.behind("let a be c", "many", head=full)

    def test_many_inputs_and_rows(self):
        eight = "word 2\n" + "".join(f"in {name}\n" for name in "abcdefgh")
        self.both(eight, None)
        for line, wanted in (("in i", "many"), ("in a", "many"), ("in i i", "form"), ("row r 9", "number"), ("row r 8", None)):
            self.behind(line, wanted, head=eight)
        four = "word 2\n" + "".join(f"row {name} 1\n" for name in "abcd")
        self.both(four, None)
        for line, wanted in (("row e 1", "many"), ("row e 9", "many"), ("row a 1", "many"), ("in e", None)):
            self.behind(line, wanted, head=four)

    def test_numbers(self):
        for width in range(11):
            self.both(f"word {width}\n", None if 1 <= width <= 8 else (0, "number"))
        for many in range(20):
            self.behind(f"row s {many}", None if 1 <= many <= 8 else "number")
            text = HEAD + f"times {many}\nend\n"
            self.both(text, None if 1 <= many <= 16 else (4, "number"))
        for width in range(1, 9):
            top = 2 ** width
            head = f"word {width}\nin a\nrow r 8\n"
            for line in ("out N", "out a + N", "out -N", "let a be if(N,0,0)", "set r[N] be 0", "set r[0] be N", "out r[N]",
                         "out (N) << 0", "out if(0,N,1)", "out if(0,1,N)", "out ~(a|N)"):
                self.behind(line.replace("N", str(top - 1)), None, head=head)
                self.behind(line.replace("N", str(top)), "number", head=head)
        # The number behind a shift may be any one.
        for by in ("0", "1", "8", "9", "100", "999"):
            self.behind(f"out a << {by} >> {by}", None)

    def test_unknown(self):
        for line in ("out c", "let c be c", "let a be c", "set c[0] be 1", "set r[c] be 1", "set r[0] be c", "out c[0]",
                     "out r[c]", "out if(c,1,1)", "out if(1,c,1)", "out if(1,1,c)", "out a+c", "out -c", "out c<<1"):
            self.behind(line, "unknown")
            self.behind(line, None if "c[" not in line else "kind", head=HEAD + "let c be 1\n")
        # What stands behind makes nothing known, also in rounds that come again.
        self.both(HEAD + "times 2\nlet a be c\nlet c be 1\nend\n", (5, "unknown"))
        self.both(HEAD + "times 2\nlet c be 1\nend\nout c\n", None)

    def test_kind(self):
        for line in ("out r", "let r be 1", "out a[0]", "set a[0] be 1", "out a + r", "set r[r] be 1", "set r[0] be r",
                     "out r[r]", "out a[b[0]]", "out if(r,1,1)", "out r << 1", "let a be -r"):
            self.behind(line, "kind")

    def test_twice(self):
        for line in ("in a", "in r", "row a 2", "row r 2"):
            self.behind(line, "twice")
        self.both("word 3\nin a\nin a\n", (2, "twice"))
        self.both("word 3\nlet a be 1\nlet a be 2\n", None)

    def test_work(self):
        full = HEAD + "times 11\ntimes 2\nlet a be 1\nout a\nset r[0] be a\nend\n"
        # times 11: 1, times 2: 11, and three lines of 22.
        self.assertEqual(Program(full + "end\n").work, 78)
        self.both(full + "let a be 1\nout 1\nend\n", None)
        self.assertEqual(Program(full + "let a be 1\nout 1\nend\n").work, 100)
        self.both(full + "let a be 1\nout 1\nend\nout 1\n", (13, "work"))
        self.both(full + "let a be 1\nout 1\ntimes 1\n", (12, "work"))
        self.both(full + "let a be 1\nout 1\nout 1\n", (12, "work"))
        self.both(HEAD + "times 16\ntimes 16\nlet a be 1\n", (6, "work"))
        self.both(HEAD + "times 16\ntimes 16\nend\nend\n", None)
        self.both(HEAD + "times 10\ntimes 9\ntimes 1\n", (6, "work"))
        self.both(HEAD + "times 10\ntimes 8\ntimes 1\nend\nout 1\n", (8, "work"))

    def test_work_at_its_bound(self):
        for rounds, lines in ((1, 54), (3, 33), (9, 11), (11, 9), (16, 6)):
            # The line times itself has the work 1.
            text = "word 2\n" + f"times {rounds}\n" + "out 1\n" * lines + "end\n"
            work = 1 + rounds * lines
            self.assertEqual(Program(text).work, work)
            self.both(text + "out 1\n" * min(3, 100 - work), None)
            if work + min(3, 100 - work) == 100:
                self.both(text + "out 1\n" * (101 - work), (text.count("\n") + 100 - work, "work"))

    def test_missing(self):
        self.both("", (0, "missing"))
        self.both("\n", (0, "form"))
        self.both("word 3\ntimes 2\n", (2, "missing"))
        self.both("word 3\ntimes 2\ntimes 2\nend\n", (4, "missing"))
        self.both("word 3\ntimes 2\nout 1", (2, "feed"))

    def test_the_first_word_that_applies(self):
        """Each line has several faults; taking the first one away shows the next one."""
        for line, wanted in (("set A[c] be a[9] " + "+ 1 " * 20, "sign"), ("set d[c] be a[9] " + "+ 1 " * 20, "long"),
                             ("set d[c] be a[9] +", "form"), ("set d[c] be a[9]", "number"), ("set d[c] be a[7]", "unknown"),
                             ("set a[b] be a[7]", "kind"), ("set r[b] be r[7]", "work")):
            self.behind(line, wanted, head=HEAD + "times 16\ntimes 16\n")
        self.behind("let r be c + 9", "number")
        self.behind("let r be c + 7", "unknown")
        self.behind("let r be b", "kind")
        self.behind("row a 9", "number")
        self.behind("row a 8", "twice")
        self.behind("times 17", "number", head=HEAD + "times 16\ntimes 16\n")
        self.behind("times 2", "work", head=HEAD + "times 16\ntimes 5\ntimes 3\n")

    def test_the_first_wrong_line(self):
        self.both("word 3\nout c\nout A\n", (1, "unknown"))
        self.both("word 3\nout 1\nin a\nout c\n", (2, "form"))
        self.both("word 9\nout A\n", (0, "number"))
        self.both("word 3\ntimes 2\nout c\n", (2, "unknown"))


class Binding(unittest.TestCase):
    def test_how_tight_operators_bind(self):
        words = list(itertools.product(range(8), (0, 1, 3, 6), (0, 2, 5, 7)))
        for one, other in itertools.product(range(6), repeat=2):
            for left, right in itertools.product(GROUPS[one], GROUPS[other]):
                last = "1" if other == 4 else "c"
                middle = "2" if one == 4 else "b"
                # A shift has just a number behind it, so that nothing tighter can stand there.
                if one == 4 and other > 4:
                    self.assertEqual(why(f"word 3\nin a\nout a {left} 2 {right} a\n"), (2, "form"))
                    continue
                text = f"a {left} {middle} {right} {last}"
                grouped = f"a {left} ({middle} {right} {last})" if one < other else f"(a {left} {middle}) {right} {last}"
                for row in words:
                    self.assertEqual(meaning(text, row), meaning(grouped, row), (text, row))

    def test_groups_differ(self):
        """Words for which the two ways to bind give unlike results, so that the test above tells them apart."""
        for text, row, wanted in (("a - b - c", (1, 2, 3), 4), ("a - b + c", (1, 2, 3), 2), ("a + b << 1", (1, 2, 0), 6),
                                  ("a & b + c", (4, 3, 1), 4), ("a ^ b & c", (7, 7, 1), 6), ("a | b ^ c", (4, 6, 2), 4),
                                  ("a = b | c", (1, 0, 1), 1), ("a < b < c", (3, 2, 1), 1), ("a = b = c", (2, 2, 1), 1),
                                  ("a < b = c", (1, 2, 1), 1), ("a << 1 >> 1", (7, 0, 0), 3), ("a >> 1 << 1", (7, 0, 0), 6)):
            self.assertEqual(meaning(text, row), wanted, text)

    def test_prefixes(self):
        for a, b in itertools.product(range(8), repeat=2):
            row = (a, b, 0)
            self.assertEqual([meaning(text, row) for text in ("-a", "~a", "--a", "~~a", "-~a", "~-a")],
                             [-a % 8, 7 - a, a, a, (a + 1) % 8, (a - 1) % 8])
            self.assertEqual([meaning(text, row) for text in ("-a+b", "~a&b", "a--b", "a-~b", "-a<<1", "~a>>1", "-a=b")],
                             [(b - a) % 8, (7 - a) & b, (a + b) % 8, (a + b + 1) % 8, -2 * a % 8, (7 - a) // 2,
                              int(-a % 8 == b)])
            self.assertEqual(meaning("-(a+b)", row), (-a - b) % 8)

    def test_operators_against_plain_numbers(self):
        for width in (1, 3, 8):
            top = 2 ** width
            for a, b in itertools.product(sorted({0, 1, 2 % top, top // 2, top - 1, 5 % top}), repeat=2):
                found = [meaning(f"a {sign} b", (a, b, 0), width) for sign in ("+", "-", "&", "|", "^", "=", "<")]
                self.assertEqual(found, [(a + b) % top, (a - b) % top, a & b, a | b, a ^ b, int(a == b), int(a < b)])
                for by in (0, 1, width - 1, width, width + 1, 999):
                    self.assertEqual(meaning(f"a << {by}", (a, b, 0), width), a * 2 ** by % top)
                    self.assertEqual(meaning(f"a >> {by}", (a, b, 0), width), a // 2 ** by)

    def test_if(self):
        for row in itertools.product(range(8), (1, 4), (2, 5)):
            self.assertEqual(meaning("if(a, b, c)", row), row[1] if row[0] else row[2])
            self.assertEqual(meaning("if(a = 3, b, c) + 1", row), (row[1] if row[0] == 3 else row[2]) + 1)
            self.assertEqual(meaning("-if(0, b, if(a < 2, a, c))", row), -(row[0] if row[0] < 2 else row[2]) % 8)


class Meaning(unittest.TestCase):
    def test_the_example(self):
        program = Program(EXAMPLE)
        self.assertEqual([program.meaning([3]), program.meaning(words=(6,))], [[5, 3], [1, 2]])
        self.assertEqual(list(program.trace([3])), [(3, 6), (5, 4), (5, 5), (7, 5), (8, 3)])

    def test_rows_within_and_beyond_their_bounds(self):
        for width in (1, 2, 3, 8):
            for many in range(1, 9):
                text = f"word {width}\nin i\nin v\nrow r {many}\nset r[i] be v\n" + "".join(
                    f"out r[{at}]\n" for at in range(min(2 ** width, 10))) + "out r[i]\nlet i be i + 1\nout r[i]\n"
                program = Program(text)
                for i in range(min(2 ** width, 12)):
                    v = 2 ** width - 1
                    row = [v if at == i and at < many else 0 for at in range(min(2 ** width, 10))]
                    self.assertEqual(program.meaning([i, v]), row + [v if i < many else 0, 0], (width, many, i))

    def test_rows_are_kept_between_lines(self):
        program = Program("word 4\nin a\nrow r 3\nrow s 2\nset r[0] be a\nset r[1] be r[0] + r[0]\nset s[1] be r[1] + 1\n"
                          "set r[r[2]] be 9\nset r[3] be 7\nout r[0]\nout r[1]\nout r[2]\nout s[0]\nout s[1]\nout r[3]\n")
        self.assertEqual(program.meaning([2]), [9, 4, 0, 0, 5, 0])
        # For set the word that is set is told, also if the row has no such index.
        self.assertEqual(list(program.trace([2]))[:5], [(4, 2), (5, 4), (6, 5), (7, 9), (8, 7)])

    def test_the_index_is_the_one_ahead_of_the_set(self):
        program = Program("word 3\nin a\nrow r 4\nset r[0] be 2\nset r[r[0]] be r[0] + 1\nout r[2]\nset r[r[2]] be r[2]\nout r[3]\n")
        self.assertEqual(program.meaning([0]), [3, 3])

    def test_inputs_may_be_let(self):
        program = Program("word 3\nin a\nin b\nlet a be a + b\nlet b be a\nlet c be b + 1\nlet c be c + a\nout a\nout b\nout c\n")
        self.assertEqual(program.meaning([1, 2]), [3, 3, 7])

    def test_times(self):
        for rounds in range(1, 17):
            program = Program(f"word 8\nin a\ntimes {rounds}\nlet a be a + 3\nend\nout a\n")
            self.assertEqual(program.meaning([7]), [7 + 3 * rounds])
        program = Program("word 8\nin a\ntimes 3\nout a\ntimes 2\nlet a be a + 1\ntimes 1\nend\nend\nlet a be a + 10\nend\nout a\n")
        self.assertEqual(program.meaning([0]), [0, 12, 24, 36])
        self.assertEqual([program.many_outputs, program.work], [4, 1 + 3 + 3 + 6 + 6 + 3 + 1])
        self.assertEqual([line for line, _ in program.trace([0])], [3, 5, 5, 9] * 3 + [11])

    def test_many_outputs(self):
        program = Program("word 1\nin a\ntimes 9\nout a\nout 0\nout ~a\nend\n" + "out a\n" * 9 + "times 9\ntimes 5\nend\nend\n")
        self.assertEqual([program.many_outputs, program.work], [36, 47])
        self.assertEqual(program.meaning([1]), [1, 0, 0] * 9 + [1] * 9)
        program = Program("word 2\ntimes 3\ntimes 16\nout 3\nout 1\nend\nend\n")
        self.assertEqual([program.many_outputs, program.work, program.meaning([])], [96, 100, [3, 1] * 48])

    def test_against_a_plain_reckoning(self):
        chance, many = random.Random(3), 0
        for seed in range(400):
            text = random_program(seed, width=1 + seed % 8, many=8)
            if slow_why(text):
                self.assertEqual(why(text), slow_why(text))
                continue
            many += 1
            program, slow = Program(text), Plain(text)
            self.assertEqual([program.text(), program.work, program.many_outputs, program.input_names()],
                             [slow.text(), slow.work, slow.outputs, slow.inputs()])
            for _ in range(6):
                words = [chance.randrange(2 ** program.width) for _ in range(2)]
                self.assertEqual(program.meaning(words), slow.meaning(words), text)
                self.assertEqual(list(program.trace(words)), slow.trace(words), text)
        self.assertGreater(many, 250)

    def test_deep_expressions(self):
        for text, wanted in (("(" * 14 + "a" + ")" * 14, 5), ("-" * 28 + "a", 5), ("~" * 27 + "a", 2),
                             ("a" + "-a" * 14, 5 * -13 % 8), ("r[" * 9 + "a" + "]" * 9, 0)):
            self.assertEqual(Program(f"word 3\nin a\nrow r 8\nout {text}\n").meaning([5]), [wanted])

    def test_random_expressions_in_brackets(self):
        """Brackets around a whole expression change nothing."""
        chance = random.Random(8)
        for _ in range(200):
            row = random_expression(chance, 2)
            if len(row) > 25:
                continue
            head = "word 3\nin a\nin b\nrow r 4\nrow s 8\nset r[1] be a\nset s[5] be b\n"
            text = f"{head}out {' '.join(row)}\nout ({''.join(row)})\n"
            if why(text) is None:
                one, other = Program(text).meaning([5, 3])
                self.assertEqual(one, other)


class Inputs(unittest.TestCase):
    def calls(self, program):
        return [program.meaning, lambda words: list(program.trace(words)), lambda words: next(program.trace(words=words))]

    def test_wrong_lists(self):
        program = Program("word 3\nin a\nin b\nout a\n")
        for wrong in [None, True, 0, "", "12", {}, {0: 1, 1: 2}, USUAL, program, [], [1], [1, 2, 3], (None, None, None)]:
            for call in self.calls(program):
                self.assertEqual(told(call, wrong), ("BadWords", {"at": -1}))

    def test_wrong_words(self):
        program = Program("word 3\nin a\nin b\nout a\n")
        for wrong in [-1, 8, GREAT, -GREAT] + NO_NUMBERS:
            for call in self.calls(program):
                self.assertEqual(told(call, [wrong, 0]), ("BadWords", {"at": 0}))
                self.assertEqual(told(call, (7, wrong)), ("BadWords", {"at": 1}))
                self.assertEqual(told(call, [wrong, None]), ("BadWords", {"at": 0}))

    def test_a_trace_raises_when_its_first_item_is_requested(self):
        program = Program(EXAMPLE)
        found = program.trace([8])
        self.assertIsInstance(found, types.GeneratorType)
        self.assertEqual(told(next, found), ("BadWords", {"at": 0}))
        first = next(program.trace([3]))
        self.assertIsInstance(first, tuple)
        self.assertEqual(first, (3, 6))


if __name__ == "__main__":
    unittest.main()
