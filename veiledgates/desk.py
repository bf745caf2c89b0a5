"""The desk: several owners and their jobs, told by lines."""

from veiledgates.checks import is_name
from veiledgates.deeds import deed_of, question_of
from veiledgates.errors import (
    BadDeed, BadWords, Early, InvalidText, Missing, NoName, NothingLeft, NotRoomy, Twice, VeilError,
)
from veiledgates.jobs import Plan, drawn_owner, new_job
from veiledgates.programs import Program
from veiledgates.reading import head_sizes, split_text
from veiledgates.texts import spaced


def _check_new(name, held):
    if name in held:
        raise Twice(name)


def _held(name, held):
    """Return what is held in a dict under a name, which may be any value."""
    if not is_name(name) or name not in held:
        raise NoName(name)
    return held[name]


class Desk:
    """Owners, programs and jobs, and the journal of the deeds that made them."""

    def __init__(self, sizes):
        if not sizes.roomy:
            raise NotRoomy()
        self.sizes = sizes
        self._owners = {}
        self._programs = {}
        self._jobs = {}
        self._journal = []
        # For each deed of the journal a mark, which tells how to take it back.
        self._marks = []
        self._log = []
        self._busy = False

    @staticmethod
    def read(text):
        """Return the desk that has a text."""
        lines, rest = split_text(text)
        sizes = head_sizes(lines, "sizes")
        if not sizes.roomy:
            raise InvalidText(0)
        desk = Desk(sizes)
        for at, line in enumerate(lines[1:]):
            if not desk._could_do(deed_of(line)):
                raise InvalidText(at + 1)
        if rest:
            raise InvalidText(len(lines))
        return desk

    @property
    def busy(self):
        """Whether deeds are being done."""
        return self._busy

    def _do_owner(self, deed):
        name = deed.named[0]
        _check_new(name, self._owners)
        self._owners[name] = drawn_owner(self.sizes, deed.amounts[0])
        return "owner", name

    def _do_program(self, deed):
        name = deed.named[0]
        _check_new(name, self._programs)
        self._programs[name] = Plan(Program(deed.rest))
        return "program", name

    def _do_job(self, deed):
        name, owner_name, program_name = deed.named
        _check_new(name, self._jobs)
        owner = _held(owner_name, self._owners)
        plan = _held(program_name, self._programs)
        plan.program.check_inputs(deed.amounts)
        before = owner.draws_state()
        covers = owner.covers_of(deed.amounts, plan.program.width)
        self._jobs[name] = new_job(owner_name, owner, plan, deed.amounts, covers)
        return "job", name, owner_name, before

    def _do_hand(self, deed):
        name, earlier_name, owner_name, program_name = deed.named
        _check_new(name, self._jobs)
        earlier = _held(earlier_name, self._jobs)
        owner = _held(owner_name, self._owners)
        plan = _held(program_name, self._programs)
        handing = earlier.plan.program
        if handing.width != plan.program.width or handing.many_outputs != plan.program.many_inputs:
            raise BadWords(-1)
        outputs = earlier.runner.outputs()
        before = owner.draws_state()
        covers = owner.covers_from(self._owners[earlier.owner].key, outputs)
        self._jobs[name] = new_job(owner_name, owner, plan, earlier.plain_words(), covers)
        return "job", name, owner_name, before

    def _do_work(self, deed):
        name = deed.named[0]
        wires = _held(name, self._jobs).runner.run(stop=deed.amounts[0])
        return "work", name, len(wires)

    def _do_deed(self, deed):
        """Do a deed, and return its mark."""
        if deed.word == "owner":
            return self._do_owner(deed)
        if deed.word == "program":
            return self._do_program(deed)
        if deed.word == "job":
            return self._do_job(deed)
        if deed.word == "hand":
            return self._do_hand(deed)
        return self._do_work(deed)

    def _do_all(self, deeds):
        """Do deeds, all of them or none."""
        many = len(self._journal)
        self._busy = True
        try:
            for deed in deeds:
                self._marks.append(self._do_deed(deed))
                self._journal.append(deed.line)
        except (VeilError, Missing, Early):
            while len(self._journal) > many:
                self.undo()
            raise
        finally:
            self._busy = False

    def _could_do(self, deed):
        """Do what may be a deed, and tell whether it was one and raised no error."""
        if deed is None:
            return False
        try:
            self._do_all([deed])
        except (VeilError, Missing, Early):
            return False
        return True

    def _names(self, word):
        if word == "owners":
            return list(self._owners)
        return list(self._programs) if word == "programs" else list(self._jobs)

    def _told(self, word, name):
        """Return the answer to a question."""
        if name == "":
            return spaced(self._names(word)) or "none"
        job = _held(name, self._jobs)
        if word == "left":
            return str(job.runner.left)
        words = job.plain_words() if word == "plain" else job.opened_outputs(self._owners[job.owner].key)
        return spaced(words) or "nothing"

    def _answer(self, line):
        deed = deed_of(line)
        question = question_of(line)
        try:
            if deed is not None:
                self._do_all([deed])
                return "done"
            if question is not None:
                word, name = question
                return self._told(word, name)
        except (VeilError, Missing, Early) as error:
            return f"error {error.code}"
        return "unknown"

    def say(self, line):
        """Return the answer to a line."""
        answer = self._answer(line)
        self._log.append((line, answer))
        return answer

    def __call__(self, line):
        return self.say(line)

    def do(self, *lines):
        """Do deeds, all of them or none, and return the list of their answers."""
        deeds = [deed_of(line) for line in lines]
        for at, deed in enumerate(deeds):
            if deed is None:
                raise BadDeed(at)
        self._do_all(deeds)
        return ["done" for _ in deeds]

    def undo(self):
        """Take the last deed back."""
        if not self._journal:
            raise NothingLeft()
        self._journal.pop()
        word, name, *more = self._marks.pop()
        if word == "owner":
            del self._owners[name]
        elif word == "program":
            del self._programs[name]
        elif word == "job":
            del self._jobs[name]
            owner_name, before = more
            self._owners[owner_name].set_back(before)
        else:
            self._jobs[name].runner.take_back(more[0])

    def journal(self):
        """Return the list of the deeds that were done, as lines."""
        return list(self._journal)

    def log(self):
        """Return the list of the pairs of a line that was said and its answer."""
        return list(self._log)

    def public_of(self, owner):
        """Return the public tables of an owner."""
        return _held(owner, self._owners).public

    def runner_of(self, job):
        """Return a twin of the runner of a job."""
        return _held(job, self._jobs).runner.twin()

    def text(self):
        """Return the line of the sizes, and the lines of the journal."""
        return "".join([f"{line}\n" for line in [f"sizes {self.sizes}", *self._journal]])

    def twin(self):
        """Return an independent desk in the same state, with its log."""
        other = Desk(self.sizes)
        other._owners = {name: self._owners[name].twin() for name in self._owners}
        other._programs = dict(self._programs)
        other._jobs = {name: self._jobs[name].twin() for name in self._jobs}
        other._journal = list(self._journal)
        other._marks = list(self._marks)
        other._log = list(self._log)
        return other

    def __eq__(self, other):
        return isinstance(other, Desk) and self.sizes == other.sizes and self._journal == other._journal

    def __repr__(self):
        return f"Desk({len(self._owners)} owners, {len(self._programs)} programs, {len(self._jobs)} jobs)"
