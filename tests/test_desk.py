"""Promises 2, 22, 37 and 38: desks, their deeds, questions, journals, logs, undoing, texts and twins."""

import random
import re
import unittest

from helpers import GREAT, NO_NUMBERS, NO_STRINGS, USUAL, joined_lines, told
from plainly import NO_NAMES
from veiledgates.desk import Desk
from veiledgates.draws import Made
from veiledgates.keys import Key
from veiledgates.making import net_of
from veiledgates.programs import Program
from veiledgates.refreshing import refreshed
from veiledgates.runner import Runner
from veiledgates.sizes import Sizes
from veiledgates.words import bits_of

FAR = Sizes(2, 8, 65536, 2, 26)
ALL = "999999999"
INC = "word 2;in a;out a + 1;"
SUM = "word 2;in a;in b;out a + b;out a < b;"
DEEDS = ["owner ann 7", "owner bob 8", f"program inc {INC}", f"program sum {SUM}", "job one ann inc 2", f"work one {ALL}",
         "job two bob sum 1 2", "work two 3"]
NO_DEEDS = [
    "", " ", "owner", "owner ann", "owner ann 7 8", "owner  ann 7", "owner ann  7", " owner ann 7", "owner ann 7 ",
    "owner Ann 7", "owner ann7 7", "owner abcdefg 7", "owner ann -7", "owner ann +7", "owner ann 07", "owner ann 00",
    "owner ann 1000000000", "owner ann 1234567890", "owner ann x", "owner ann 7.0", "owner ann", "Owner ann 7", "owners ann", "owner 7 ann",
    "owner ann 7\n", "owner ann\n7", "\nowner ann 7", "owner\tann 7", "owner ann -0", "owner ann \u0667",
    "program", "program inc", "program  inc word 2;", "program Inc word 2;", "program abcdefg word 2;", "program 1 word 2;",
    " program inc word 2;", "program inc word 2;\n", "program inc word 2\n;", "programs inc word 2;", "program\tinc word 2;",
    "job", "job one", "job one ann", "job one ann ", "job  one ann inc 2", "job one ann inc ", "job one ann inc 2 ",
    "job one ann inc  2", "job one ann inc x", "job one ann inc 02", "job one ann inc -1", "job one ann inc 1000000000",
    "job one ann inc 2\n", "job One ann inc 2", "job one Ann inc 2", "job one ann Inc 2", "job one ann 2", "job 2 ann inc 2",
    "job one ann inc 1 2 x", "job one ann inc,2", "job one ann inc +2",
    "hand", "hand two one bob", "hand two one bob inc 2", "hand two one bob inc ", "hand two  one bob inc", "hand Two one bob inc",
    "hand two one bob inc\n", "hand two one bob 2", "hand two one 3 inc", "hand two one bob abcdefg", "hand 2 one bob inc",
    "work", "work one", "work one ", "work one 2 3", "work one x", "work one -1", "work one 01", "work one 1000000000",
    "work One 1", "work 1 one", "work one 1\n", "work  one 1", "work one  1", "work one 1 ",
    "undo", "do", "done", "text", "journal", "sizes 2 8 65536 2 1", "set one 2", "net 2",
]
QUESTIONS = ["owners", "programs", "jobs", "left one", "result one", "plain one"]
NO_QUESTIONS = ["owners ", " owners", "owners ann", "Owners", "owners\n", "programs one", "jobs one", "jobs jobs", "left", "left ",
                "left  one", "left one ", "left one two", "left One", "left 1", "left abcdefg", "left one\n", "result",
                "result one 1", "result ONE", "plain", "plain one two", "plain one.", "results one", "lefts one", "none",
                "nothing", "busy", "log"]


def a_desk(*more):
    desk = Desk(USUAL)
    desk.do(*DEEDS, *more)
    return desk


def told_state(desk):
    """All that a desk tells of itself, but its log; what its draws hand out next shows in covers of new jobs."""
    found = [desk.sizes, desk.journal(), desk.text(), repr(desk), desk.busy]
    twin = desk.twin()
    for word in ("owners", "programs", "jobs"):
        found.append(twin(word))
    jobs = twin("jobs").split(" ") if twin("jobs") != "none" else []
    for job in jobs:
        runner = twin.runner_of(job)
        found.append([job, runner.net, runner.public, runner.covers(), runner.touches(), runner.done])
        found.append([twin(f"{word} {job}") for word in ("left", "result", "plain")])
    owners = twin("owners").split(" ") if twin("owners") != "none" else []
    twin("program zzzzzz word 1;in a;in b;")
    for owner in owners:
        found.append([owner, twin.public_of(owner)])
        found.append(twin(f"job zzzzzz {owner} zzzzzz 1 0"))
        found.append(twin.runner_of("zzzzzz").covers())
        twin.undo()
    return found


class Hand:
    """An owner by hand, from a seed."""

    def __init__(self, seed, sizes=USUAL):
        self.draws = Made(seed)
        self.key = Key.drawn(sizes, draws=self.draws)
        self.public = self.key.public_tables(draws=self.draws)

    def run(self, text, covers):
        runner = Runner(net_of(Program(text.replace(";", "\n"))), self.public, covers)
        runner.run()
        return runner

    def fresh(self, words, width):
        return [self.key.fresh(bit, draws=self.draws) for bit in bits_of(words, width=width)]

    def handed(self, key, covers):
        switch = self.key.switch_from(key.bits(), draws=self.draws)
        return [refreshed(self.public, switch.moved(cover)) for cover in covers]


class Making(unittest.TestCase):
    def test_attributes(self):
        desk = Desk(sizes=USUAL)
        self.assertEqual([desk.sizes, desk.journal(), desk.log(), desk.busy], [USUAL, [], [], False])
        self.assertEqual([desk.text(), repr(desk)], ["sizes 2 8 65536 2 1\n", "Desk(0 owners, 0 programs, 0 jobs)"])
        self.assertIsInstance(vars(Desk)["busy"], property)
        self.assertEqual(repr(a_desk()), "Desk(2 owners, 2 programs, 2 jobs)")

    def test_sizes_that_are_not_roomy(self):
        for sizes in (FAR, Sizes(1, 4, 16, 2, 0), Sizes(8, 16, 65536, 8, 0), Sizes(2, 8, 16, 4, 1)):
            self.assertFalse(sizes.roomy)
            self.assertEqual(told(Desk, sizes), ("NotRoomy", {}))

    def test_the_example(self):
        desk = Desk(USUAL)
        done = desk.do("owner ann 7", "owner bob 8", f"program inc {INC}", "job one ann inc 2", f"work one {ALL}",
                       "hand two one bob inc", f"work two {ALL}")
        self.assertEqual(done, ["done"] * 7)
        self.assertEqual([desk("result one"), desk("result two"), desk("plain two"), desk("left two"), desk("jobs"),
                          desk("result six")], ["3", "0", "0", "0", "one two", "error NoName"])


class Owners(unittest.TestCase):
    def test_keys_and_tables_are_drawn(self):
        desk = Desk(USUAL)
        for name, seed in (("ann", 7), ("bob", 0), ("z", 999999999), ("word", 7)):
            self.assertEqual(desk.say(f"owner {name} {seed}"), "done")
            self.assertEqual(desk.public_of(name), Hand(seed).public)
        self.assertEqual(desk("owners"), "ann bob z word")
        self.assertEqual(desk.public_of("ann"), desk.public_of(owner="word"))

    def test_twice(self):
        desk = a_desk()
        before = told_state(desk)
        self.assertEqual([desk("owner ann 9"), desk("owner bob 8")], ["error Twice", "error Twice"])
        self.assertEqual(told(desk.do, "owner bob 1"), ("Twice", {"name": "bob"}))
        self.assertEqual(told_state(desk), before)

    def test_values_that_are_no_owners(self):
        desk = a_desk()
        for wrong in ["", "one", "inc", "Ann", "ann ", 0, 7, GREAT, ["ann"], ("ann",), desk] + NO_NUMBERS:
            found = told(desk.public_of, wrong)
            self.assertEqual(found, ("NoName", {"name": wrong}))
            self.assertIs(found[1]["name"], wrong)


class Programs(unittest.TestCase):
    def test_texts_as_they_are(self):
        desk = Desk(USUAL)
        lines = ["program a word 2;", "program b  word 2;in a; out a ;", "program c word2;in   a;out(a)  ;", "program word word 8;"]
        for line in lines:
            self.assertEqual(desk(line), "done")
        self.assertEqual([desk.journal(), desk("programs")], [lines, "a b c word"])
        self.assertEqual(Desk.read(desk.text()).journal(), lines)

    def test_the_errors_of_programs(self):
        desk = a_desk()
        before = told_state(desk)
        for text, line, why in (("", 0, "missing"), (" ", 0, "feed"), (";", 0, "form"), ("word 2", 0, "feed"), ("word 2; ", 1, "feed"),
                                ("word 9;", 0, "number"), ("word 2;out b;", 1, "unknown"), ("word 2;;", 1, "form"),
                                ("word 2;out A;", 1, "sign"), ("word 2;times 2;", 2, "missing")):
            self.assertEqual(desk(f"program new {text}"), "error BadLine")
            self.assertEqual(told(desk.do, f"program new {text}"), ("BadLine", {"line": line, "why": why}))
            # Twice comes first.
            self.assertEqual(told(desk.do, f"program inc {text}"), ("Twice", {"name": "inc"}))
            self.assertEqual(desk(f"program inc {text}"), "error Twice")
        self.assertEqual(told_state(desk), before)


class Jobs(unittest.TestCase):
    def test_covers_by_hand(self):
        desk, ann, bob = Desk(USUAL), Hand(7), Hand(8)
        desk.do("owner ann 7", "owner bob 8", f"program sum {SUM}", f"program inc {INC}")
        for job, name, owner, text, words in (("a", "ann", ann, SUM, [1, 2]), ("b", "bob", bob, SUM, [3, 0]), ("c", "ann", ann, INC, [3]),
                                              ("d", "ann", ann, SUM, [2, 2])):
            program = "sum" if text == SUM else "inc"
            self.assertEqual(desk(f"job {job} {name} {program} {' '.join(map(str, words))}"), "done")
            covers = owner.fresh(words, 2)
            runner = desk.runner_of(job)
            self.assertEqual([runner.net, runner.public], [net_of(Program(text.replace(";", "\n"))), owner.public])
            self.assertEqual([list(runner.covers().values()), runner.done], [covers, []])
            self.assertEqual(desk(f"work {job} {ALL}"), "done")
            self.assertEqual(desk.runner_of(job=job).covers(), owner.run(text, covers).covers())

    def test_results(self):
        desk = Desk(USUAL)
        desk.do("owner ann 7", f"program sum {SUM}", "program none word 3;in a;", "program no word 1;", "program c word 8;out 200;out 7;")
        for at in range(16):
            job = "abcdefghijklmnop"[at]
            desk.do(f"job {job} ann sum {at // 4} {at % 4}", f"work {job} {ALL}")
            wanted = f"{(at // 4 + at % 4) % 4} {int(at // 4 < at % 4)}"
            self.assertEqual([desk(f"result {job}"), desk(f"plain {job}"), desk(f"left {job}")], [wanted, wanted, "0"])
        desk.do("job q ann none 5", "job r ann no", "job s ann c")
        for job, wanted in (("q", "nothing"), ("r", "nothing"), ("s", "200 7")):
            self.assertEqual([desk(f"result {job}"), desk(f"plain {job}"), desk(f"left {job}")], [wanted, wanted, "0"])

    def test_errors_and_their_order(self):
        desk = a_desk()
        before = told_state(desk)
        for line, code, kept in (
                ("job one ann inc 2", "Twice", {"name": "one"}), ("job one eve six 9 9", "Twice", {"name": "one"}),
                ("job six eve six 9 9", "NoName", {"name": "eve"}), ("job six one inc 2", "NoName", {"name": "one"}),
                ("job six ann six 9 9", "NoName", {"name": "six"}), ("job six ann bob 2", "NoName", {"name": "bob"}),
                ("job six ann inc", "BadWords", {"at": -1}), ("job six ann inc 9 9", "BadWords", {"at": -1}),
                ("job six ann sum 1", "BadWords", {"at": -1}), ("job six ann sum 1 2 3", "BadWords", {"at": -1}),
                ("job six ann inc 4", "BadWords", {"at": 0}), ("job six bob sum 3 4", "BadWords", {"at": 1}),
                ("job six bob sum 999999999 4", "BadWords", {"at": 0})):
            self.assertEqual(desk(line), f"error {code}")
            self.assertEqual(told(desk.do, line), (code, kept))
        self.assertEqual(told_state(desk), before)

    def test_values_that_are_no_jobs(self):
        desk = a_desk()
        for wrong in ["", "ann", "inc", "One", 0, GREAT, ["one"], ("one",), desk] + NO_NUMBERS:
            found = told(desk.runner_of, wrong)
            self.assertEqual(found, ("NoName", {"name": wrong}))
            self.assertIs(found[1]["name"], wrong)

    def test_names_of_three_kinds(self):
        desk = Desk(USUAL)
        for name in NO_NAMES + ["a", "abcdef", "none"]:
            desk.do(f"owner {name} 1", f"program {name} {INC}", f"job {name} {name} {name} 1", f"work {name} {ALL}")
            self.assertEqual([desk(f"result {name}"), desk(f"plain {name}")], ["2", "2"])
        self.assertEqual([desk("owners"), desk("programs"), desk("jobs")], [" ".join(NO_NAMES + ["a", "abcdef", "none"])] * 3)

    def test_a_runner_is_a_twin(self):
        desk = a_desk()
        before = told_state(desk)
        runner = desk.runner_of("two")
        self.assertEqual(runner.done, desk.runner_of("two").done)
        runner.run()
        self.assertEqual(told_state(desk), before)
        other = desk.runner_of("two")
        desk.do(f"work two {ALL}")
        self.assertEqual([len(other.done), desk.runner_of("two").covers()], [3, runner.covers()])


class Working(unittest.TestCase):
    def test_the_first_weighings_that_are_not_done(self):
        desk = Desk(USUAL)
        desk.do("owner ann 7", f"program sum {SUM}", "job one ann sum 1 2")
        net = desk.runner_of("one").net
        wires = list(range(2 + net.inputs, net.wires))
        done = 0
        for many in (0, 1, 2, 0, 1, 999999999, 5, 0):
            self.assertEqual(desk(f"work one {many}"), "done")
            done = min(done + many, net.size)
            runner = desk.runner_of("one")
            self.assertEqual([runner.done, desk("left one")], [wires[:done], str(net.size - done)])
            self.assertEqual([touch[1] for touch in runner.touches() if touch[0] == "weigh"], wires[:done])
            self.assertEqual(desk("plain one"), "3 1")
            self.assertEqual(desk("result one"), "3 1" if done == net.size else "error NotReady")
        # Also the deeds that had nothing to do stand in the journal.
        self.assertEqual(len(desk.journal()), 11)

    def test_errors(self):
        desk = a_desk()
        before = told_state(desk)
        for name in ("six", "ann", "inc"):
            self.assertEqual(desk(f"work {name} 1"), "error NoName")
            self.assertEqual(told(desk.do, f"work {name} 1"), ("NoName", {"name": name}))
            for word in ("left", "result", "plain"):
                self.assertEqual(desk(f"{word} {name}"), "error NoName")
        self.assertEqual(desk("result two"), "error NotReady")
        self.assertEqual(told_state(desk), before)


class Handing(unittest.TestCase):
    def test_covers_by_hand(self):
        desk, ann, bob = Desk(USUAL), Hand(7), Hand(8)
        both = "word 2;in a;in b;out a ^ b;out 3;"
        desk.do("owner ann 7", "owner bob 8", f"program sum {SUM}", f"program both {both}", "job one ann sum 2 3", f"work one {ALL}")
        first = ann.run(SUM, ann.fresh([2, 3], 2))
        self.assertEqual(desk("hand two one bob both"), "done")
        covers = bob.handed(ann.key, first.outputs())
        self.assertEqual(list(desk.runner_of("two").covers().values()), covers)
        desk.do(f"work two {ALL}")
        second = bob.run(both, covers)
        self.assertEqual(desk.runner_of("two").covers(), second.covers())
        # Back to the first owner, and to the same one: it is led and refreshed likewise.
        desk.do("hand three two ann sum", f"work three {ALL}", "hand four three ann both")
        covers = ann.handed(bob.key, second.outputs())
        third = ann.run(SUM, covers)
        self.assertEqual(desk.runner_of("three").covers(), third.covers())
        self.assertEqual(list(desk.runner_of("four").covers().values()), ann.handed(ann.key, third.outputs()))
        # The draws have gone on as by hand.
        desk.do("job five ann sum 1 1", "job six bob sum 1 1")
        self.assertEqual(list(desk.runner_of("five").covers().values()), ann.fresh([1, 1], 2))
        self.assertEqual(list(desk.runner_of("six").covers().values()), bob.fresh([1, 1], 2))

    def test_results_are_the_plain_meaning(self):
        desk = Desk(USUAL)
        desk.do("owner ann 7", "owner bob 8", "program sum word 3;in a;in b;out a + b;out a - b;", "job a ann sum 5 2", f"work a {ALL}")
        words, names = [5, 2], "abcdefg"
        for at in range(1, 7):
            words = [sum(words) % 8, (words[0] - words[1]) % 8]
            owner = ("ann", "bob", "bob")[at % 3]
            desk.do(f"hand {names[at]} {names[at - 1]} {owner} sum", f"work {names[at]} {ALL}")
            wanted = f"{sum(words) % 8} {(words[0] - words[1]) % 8}"
            self.assertEqual([desk(f"result {names[at]}"), desk(f"plain {names[at]}")], [wanted, wanted])

    def test_without_words(self):
        desk, bob = Desk(USUAL), Hand(8)
        desk.do("owner ann 7", "owner bob 8", "program no word 2;", "program c word 2;out 1;", "job one ann no", "hand two one bob c")
        self.assertEqual([desk("result two"), desk("plain two"), desk("result one")], ["1", "1", "nothing"])
        # The switch was drawn, also for no covers.
        bob.handed(Hand(7).key, [])
        desk.do(f"program inc {INC}", "job six bob inc 1")
        self.assertEqual(list(desk.runner_of("six").covers().values()), bob.fresh([1], 2))

    def test_constants_and_inputs_as_outputs(self):
        desk = Desk(USUAL)
        desk.do("owner ann 7", "owner bob 8", "program mix word 2;in a;out a;out 1;out ~a;", "program add word 2;in a;in b;in c;out a+b+c;",
                "job one ann mix 2", f"work one {ALL}", "hand two one bob add", f"work two {ALL}")
        self.assertEqual([desk("result two"), desk("plain two")], ["0", "0"])

    def test_errors_and_their_order(self):
        desk = a_desk("program wide word 3;in a;out a;", "program two word 2;in a;in b;out a;", "job idle ann inc 1",
                      "program late word 2;in a;out a + 1 + a;", "job part ann late 1")
        before = told_state(desk)
        ready = desk.runner_of("idle").net.outputs()
        for line, code, kept in (
                ("hand one six eve no", "Twice", {"name": "one"}), ("hand new six eve no", "NoName", {"name": "six"}),
                ("hand new ann eve no", "NoName", {"name": "ann"}), ("hand new one eve no", "NoName", {"name": "eve"}),
                ("hand new one ann no", "NoName", {"name": "no"}), ("hand new one ann wide", "BadWords", {"at": -1}),
                ("hand new one ann two", "BadWords", {"at": -1}), ("hand new idle bob wide", "BadWords", {"at": -1}),
                ("hand new idle bob sum", "BadWords", {"at": -1}), ("hand new two ann inc", "BadWords", {"at": -1}),
                ("hand new idle bob inc", "NotReady", {"wire": ready[0]}), ("hand new idle ann inc", "NotReady", {"wire": ready[0]})):
            self.assertEqual(desk(line), f"error {code}", line)
            self.assertEqual(told(desk.do, line), (code, kept))
        self.assertEqual(told_state(desk), before)

    def test_the_first_output_that_is_not_done(self):
        desk = a_desk()
        net = desk.runner_of("two").net
        for _ in range(net.size - 3):
            missing = [wire for wire in net.outputs() if wire not in desk.runner_of("two").covers()]
            self.assertEqual(told(desk.do, "hand new two ann sum"), ("NotReady", {"wire": missing[0]}))
            desk.do("work two 1")
        self.assertIsNone(told(desk.do, "hand new two ann sum"))


class Saying(unittest.TestCase):
    def test_unknown_lines(self):
        desk = a_desk()
        before = told_state(desk)
        for line in NO_DEEDS + NO_QUESTIONS:
            self.assertEqual(desk.say(line=line), "unknown", repr(line))
            self.assertEqual(desk(line=line), "unknown")
        self.assertEqual(told_state(desk), before)

    def test_lines_bent_at_any_place(self):
        """A line with a character more, less or changed is answered as its form tells, and never fails."""
        chance = random.Random(3)
        desk = a_desk()
        for line in DEEDS + ["hand new one bob inc"] + QUESTIONS:
            for at in range(len(line) + 1):
                for mark in (" ", "\n", "A", "0", "z", ";"):
                    for bent in (line[:at] + mark + line[at:], line[:at] + mark + line[at + 1:], line[:at] + line[at + 1:]):
                        if chance.random() < 0.15:
                            answer = desk.twin().say(bent)
                            self.assertEqual(answer == "unknown", not has_form(bent), repr(bent))

    def test_questions_about_names(self):
        desk = Desk(USUAL)
        self.assertEqual([desk(line) for line in QUESTIONS], ["none"] * 3 + ["error NoName"] * 3)
        desk.do(*DEEDS)
        self.assertEqual([desk(line) for line in QUESTIONS], ["ann bob", "inc sum", "one two", "0", "3", "3"])

    def test_the_log(self):
        desk = Desk(USUAL)
        lines = ["owner ann 7", "owners", "owner ann 7", "x", f"program inc {INC}", "job one ann inc 9", "job one ann inc 1",
                 "result one", "plain one", "", "work one 99", "result one"]
        answers = [desk(line) if at % 2 else desk.say(line) for at, line in enumerate(lines)]
        self.assertEqual(answers, ["done", "ann", "error Twice", "unknown", "done", "error BadWords", "done", "error NotReady", "2",
                                   "unknown", "done", "2"])
        log = desk.log()
        self.assertEqual(log, list(zip(lines, answers)))
        # do and undo leave it as it is, whatever they raise.
        desk.do("owner bob 1", "work one 0")
        told(desk.do, "owner bob 1")
        told(desk.do, "owners")
        desk.undo()
        self.assertEqual(desk.log(), log)
        desk.log().clear()
        log.append(None)
        self.assertEqual(len(desk.log()), 12)

    def test_the_journal(self):
        desk = a_desk()
        journal = desk.journal()
        self.assertEqual(journal, DEEDS)
        desk("owner ann 7")
        desk("owners")
        desk("left two")
        desk("nonsense")
        self.assertEqual(desk.journal(), DEEDS)
        desk("work two 1")
        self.assertEqual([desk.journal(), journal], [DEEDS + ["work two 1"], DEEDS])
        desk.journal().clear()
        self.assertEqual(len(desk.journal()), 9)

    def test_one_owner_changes_nothing_for_another_one(self):
        desk, alone = a_desk(), Desk(USUAL)
        alone.do("owner bob 8", f"program sum {SUM}", "job two bob sum 1 2", "work two 3")
        desk.do("job three ann sum 1 1", f"work three {ALL}", "owner eve 9", "job four eve inc 1", "work four 1", "job six ann inc 0")
        self.assertEqual(desk.runner_of("two").covers(), alone.runner_of("two").covers())
        for one in (desk, alone):
            one.do(f"work two {ALL}", "job next bob sum 3 3")
        for job in ("two", "next"):
            self.assertEqual(desk.runner_of(job).covers(), alone.runner_of(job).covers())
        self.assertEqual([desk("result two"), alone("result two")], ["3 1"] * 2)


def has_form(line):
    """Whether a line has the form of a deed or a question, by the words of the document."""
    name, number = "[a-z]{1,6}", "(0|[1-9][0-9]{0,8})"
    forms = [f"owner {name} {number}", f"program {name} .*", f"job {name} {name} {name}( {number})*",
             f"hand {name} {name} {name} {name}", f"work {name} {number}", "owners", "programs", "jobs",
             f"(left|result|plain) {name}"]
    return "\n" not in line and any(re.fullmatch(form, line) for form in forms)


class Doing(unittest.TestCase):
    def test_answers(self):
        desk = Desk(USUAL)
        self.assertEqual([desk.do(), desk.journal()], [[], []])
        found = desk.do(*DEEDS)
        self.assertIsInstance(found, list)
        self.assertEqual([found, desk.journal(), desk.log()], [["done"] * 8, DEEDS, []])
        other = Desk(USUAL)
        for line in DEEDS:
            self.assertEqual(other(line), "done")
        self.assertEqual(told_state(desk), told_state(other))

    def test_all_or_none(self):
        good = ["owner eve 3", "program c word 2;in a;out a;", "job three ann sum 1 1", "work two 2", "job four bob inc 1",
                "work four 9", "hand six four ann inc", "work two 0", "work six 1", "job next eve c 1"]
        for wrong, wanted in (("owner ann 1", ("Twice", {"name": "ann"})), ("owner eve 1", ("Twice", {"name": "eve"})),
                              ("program x word 9;", ("BadLine", {"line": 0, "why": "number"})),
                              ("work nobody 1", ("NoName", {"name": "nobody"})),
                              ("job x ann inc 4", ("BadWords", {"at": 0})), ("hand x four zzz inc", ("NoName", {"name": "zzz"})),
                              ("job four ann inc 1", ("Twice", {"name": "four"}))):
            desk = a_desk()
            before = told_state(desk)
            self.assertEqual(told(desk.do, *good, wrong, "owner late 5"), wanted)
            self.assertEqual(told_state(desk), before)
            self.assertIs(desk.busy, False)
            desk.do(*good)
            self.assertEqual(told_state(desk), told_state(a_desk(*good)))

    def test_not_ready_within_deeds(self):
        desk = a_desk()
        before = told_state(desk)
        runner = desk.runner_of("two")
        missing = [wire for wire in runner.net.outputs() if wire not in runner.done]
        found = told(desk.do, "job three ann inc 1", "work two 0", "hand four two ann sum")
        self.assertEqual(found, ("NotReady", {"wire": missing[0]}))
        self.assertEqual(told_state(desk), before)

    def test_values_that_are_no_deeds(self):
        desk = a_desk()
        before = told_state(desk)
        for wrong in NO_STRINGS + NO_DEEDS + QUESTIONS + NO_QUESTIONS + [b"owner eve 1", ["owner eve 1"], desk]:
            for lines, at in (([wrong], 0), (["owner eve 1", wrong, None], 1), (["owner ann 1", "work no 1", wrong], 2)):
                self.assertEqual(told(desk.do, *lines), ("BadDeed", {"at": at}), repr(wrong))
        self.assertEqual(told_state(desk), before)

    def test_busy_while_deeds_are_done(self):
        class Watched(Desk):
            def _do_deed(self, deed):
                seen.append((deed.line, self.busy))
                return Desk._do_deed(self, deed)

        seen, desk = [], Watched(USUAL)
        desk("owner ann 7")
        desk("owners")
        told(desk.do, "owner bob 8", "owner ann 9", "owner eve 1")
        self.assertEqual(seen, [("owner ann 7", True), ("owner bob 8", True), ("owner ann 9", True)])
        self.assertIs(desk.busy, False)

    def test_busy(self):
        desk = a_desk()
        for call in (lambda: desk("owner eve 1"), lambda: desk("owner eve 1"), lambda: desk("x"), lambda: desk.do("owner x 1"),
                     lambda: desk.do("owner x 1"), lambda: desk.do("x"), desk.undo, lambda: desk("owners")):
            told(call)
            self.assertIs(desk.busy, False)


class Undoing(unittest.TestCase):
    def test_down_to_nothing(self):
        deeds = DEEDS + ["work two 2", "work two 0", "hand three one bob inc", f"work three {ALL}", "job four ann sum 2 2",
                         "hand five three ann inc", "work five 1", f"work five {ALL}", f"work two {ALL}", "owner eve 5",
                         "program c word 2;out 1;", "job c eve c", "hand d c ann inc", "hand e d ann inc"]
        desk, states = Desk(USUAL), []
        for line in deeds:
            states.append(told_state(desk))
            self.assertEqual(desk(line), "error NotReady" if line == deeds[-1] else "done")
        done = desk.journal()
        self.assertEqual(done, deeds[:-1])
        log = desk.log()
        for at in reversed(range(len(done))):
            self.assertIsNone(desk.undo())
            self.assertEqual(desk.journal(), done[:at])
            self.assertEqual(told_state(desk), states[at])
        self.assertEqual([desk.log(), desk], [log, Desk(USUAL)])
        for _ in range(2):
            self.assertEqual(told(desk.undo), ("NothingLeft", {}))

    def test_draws_go_back(self):
        desk = a_desk()
        desk.do("job three ann sum 1 2")
        covers = desk.runner_of("three").covers()
        desk.undo()
        desk.do("job other bob sum 1 2", "job three ann sum 1 2")
        self.assertEqual(desk.runner_of("three").covers(), covers)
        desk.undo()
        desk.do("hand four one ann inc")
        handed = desk.runner_of("four").covers()
        desk.undo()
        desk.do("hand four one ann inc")
        self.assertEqual(desk.runner_of("four").covers(), handed)

    def test_undo_and_do_again(self):
        desk = a_desk()
        before = told_state(desk)
        for _ in range(3):
            desk.undo()
        desk.do(*DEEDS[-3:])
        self.assertEqual(told_state(desk), before)

    def test_only_the_last_of_several_deeds(self):
        desk = Desk(USUAL)
        desk.do("owner ann 7", "owner bob 8")
        desk.undo()
        self.assertEqual([desk.journal(), desk("owners")], [["owner ann 7"], "ann"])
        self.assertEqual(desk("owner bob 9"), "done")
        self.assertEqual(desk.public_of("bob"), Hand(9).public)


class Texts(unittest.TestCase):
    def test_back_and_forth(self):
        for deeds in ([], DEEDS[:1], DEEDS, DEEDS + ["program p  word 2; in a;out  a+1 ;", "hand three one bob p", "work three 1"]):
            desk = Desk(USUAL)
            desk.do(*deeds)
            self.assertEqual(desk.text(), joined_lines(["sizes 2 8 65536 2 1"] + deeds))
            desk("owners")
            again = Desk.read(text=desk.text())
            self.assertIsInstance(again, Desk)
            self.assertEqual([told_state(again), again.log()], [told_state(desk), []])
            while again.journal():
                again.undo()
                desk.undo()
                self.assertEqual(told_state(again), told_state(desk))

    def told_line(self, text, line):
        self.assertEqual(told(Desk.read, text), ("InvalidText", {"line": line}))

    def test_values_that_are_no_texts(self):
        for value in NO_STRINGS + [Desk(USUAL)]:
            self.told_line(value, 0)

    def test_bent_sizes(self):
        for head in ("", "sizes", "sizes 2 8 65536 2", "sizes 2 8 65536 2 1 1", "sizes 2 8 65536 2 01", "sizes 2 8 65536 2 1 ",
                     "sizes  2 8 65536 2 1", "size 2 8 65536 2 1", "2 8 65536 2 1", "sizes 2 9 65536 2 1", "sizes 9 8 65536 2 1",
                     "sizes 2 8 65536 2 1001", "sizes 2 8 65537 2 1", "sizes 2 8 65536 9 1", "sizes 1 32 4 1 0", "sizes 2 8 65536 2 -1",
                     # Sizes that are not roomy.
                     "sizes 2 8 65536 2 26", "sizes 1 4 16 2 0", "key 2 8 65536 2 1", "sizes 2 8 65536 2 " + "1" * 5000, "owner ann 7"):
            for deeds in ([], DEEDS[:1], ["x"]):
                self.told_line(joined_lines([head] + deeds), 0)
        for text in ("", "sizes 2 8 65536 2 1", "\n", " \n"):
            self.told_line(text, 0)

    def test_lines_that_are_no_deeds(self):
        lines = ["sizes 2 8 65536 2 1"] + DEEDS
        for at in range(1, len(lines) + 1):
            for wrong in NO_DEEDS[::3] + QUESTIONS + NO_QUESTIONS[::4]:
                if "\n" not in wrong:
                    self.told_line(joined_lines(lines[:at] + [wrong] + lines[at:]), at)
            self.told_line(joined_lines(lines[:at]) + "\n", at)
            for rest in ("owner x 1", " ", "x", lines[-1]):
                self.told_line(joined_lines(lines[:at]) + rest, at)

    def test_lines_whose_deeds_raise_errors(self):
        lines = ["sizes 2 8 65536 2 1"] + DEEDS
        for wrong in ("owner ann 9", "program inc word 2;", "job one ann inc 2", "work six 1", "job three ann inc 4",
                      "job three eve inc 1", "hand three two ann sum", "hand three one bob sum", "program x word 9;", "program x "):
            self.told_line(joined_lines(lines + [wrong, "owner late 1"]), len(lines))
            self.told_line(joined_lines(lines + [wrong]) + "x", len(lines))
        # A line that stands twice, or too early.
        for at in range(1, 7):
            if not lines[at].startswith("work"):
                self.told_line(joined_lines(lines + [lines[at]]), len(lines))
        self.told_line(joined_lines([lines[0], "job one ann inc 2"] + DEEDS), 1)
        self.told_line(joined_lines([lines[0], "owner ann 7", "work one 1"]), 2)

    def test_texts_that_end_early_are_texts_of_other_desks(self):
        lines = ["sizes 2 8 65536 2 1"] + DEEDS
        for many in range(1, len(lines)):
            self.assertEqual(Desk.read(joined_lines(lines[:many])).journal(), DEEDS[:many - 1])


class Twins(unittest.TestCase):
    def test_the_same_state(self):
        desk = a_desk()
        desk("owners")
        twin = desk.twin()
        self.assertIsInstance(twin, Desk)
        self.assertEqual([told_state(twin), twin.log()], [told_state(desk), [("owners", "ann bob")]])

    def test_independence(self):
        desk = a_desk()
        twin, before = desk.twin(), told_state(desk)
        more = ["job three ann sum 1 1", "work two 1", "owner eve 3", "program c word 1;", "hand four one bob inc", "work four 9"]
        for line in more:
            twin(line)
        self.assertEqual([told_state(desk), desk.log()], [before, []])
        after = told_state(twin)
        for line in more:
            desk(line)
        self.assertEqual(told_state(desk), after)
        while desk.journal():
            desk.undo()
        self.assertEqual(told_state(twin), after)
        while len(twin.journal()) > len(DEEDS):
            twin.undo()
        self.assertEqual(told_state(twin), before)

    def test_undo_in_twins(self):
        desk = a_desk("job three ann sum 1 1")
        twin = desk.twin()
        desk.undo()
        desk.do("job other ann sum 1 1")
        twin.undo()
        twin.do("job other ann sum 1 1")
        self.assertEqual(told_state(twin), told_state(desk))

    def test_equality(self):
        desk = a_desk()
        self.assertIs(desk == a_desk(), True)
        self.assertIs(desk != a_desk(), False)
        other = a_desk()
        other("owners")
        self.assertIs(desk == other, True)
        others = [Desk(USUAL), a_desk("work two 0"), a_desk("owner eve 1"), None, True, desk.text(), desk.journal(), USUAL]
        for other in others:
            self.assertIs(desk == other, False)
            self.assertIs(desk != other, True)
        self.assertIs(Desk(USUAL) == Desk(Sizes(2, 8, 65536, 2, 2)), False)
        undone = a_desk("work two 1")
        undone.undo()
        self.assertIs(undone == desk, True)


if __name__ == "__main__":
    unittest.main()
