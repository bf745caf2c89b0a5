"""What a desk keeps under its names: owners, programs with their nets, and jobs."""

from veiledgates.covering import cover_words, opened_words
from veiledgates.draws import Made
from veiledgates.keys import Key
from veiledgates.making import net_of
from veiledgates.refreshing import refreshed
from veiledgates.runner import Runner


class Owner:
    """A key, its public tables, and the draws from which both came."""

    def __init__(self, key, public, draws):
        self.key = key
        self.public = public
        self._draws = draws

    def draws_state(self):
        """Return the state of the draws."""
        return self._draws.state

    def set_back(self, number):
        """Set the draws back to a state."""
        self._draws = Made(number)

    def covers_of(self, words, width):
        """Return the list of the drawn covers of the bits of words."""
        return cover_words(self.key, words, width=width, draws=self._draws)

    def covers_from(self, key, covers):
        """Return the list of the covers that come from covers under another key, by a drawn switch."""
        switch = self.key.switch_from(key.bits(), draws=self._draws)
        return [refreshed(self.public, switch.moved(cover)) for cover in covers]

    def twin(self):
        """Return an independent owner in the same state."""
        return Owner(self.key, self.public, self._draws.twin())


def drawn_owner(sizes, seed):
    """Return the owner who is drawn from a seed."""
    draws = Made(seed)
    key = Key.drawn(sizes, draws=draws)
    return Owner(key, key.public_tables(draws=draws), draws)


class Plan:
    """A program, and its short made net, which is made when it is needed first."""

    def __init__(self, program):
        self.program = program
        self._net = None

    def made_net(self):
        """Return the short made net."""
        if self._net is None:
            self._net = net_of(self.program)
        return self._net


class Job:
    """A plan that is run for an owner, told by the name, with its input words in plain."""

    def __init__(self, owner, plan, words, runner):
        self.owner = owner
        self.plan = plan
        self.words = list(words)
        self.runner = runner

    def plain_words(self):
        """Return the list of the output words in plain."""
        return self.plan.program.meaning(self.words)

    def opened_outputs(self, key):
        """Return the list of the output words, opened with the key of the owner."""
        return opened_words(key, self.runner.outputs(), width=self.plan.program.width)

    def twin(self):
        """Return an independent job in the same state."""
        return Job(self.owner, self.plan, self.words, self.runner.twin())


def new_job(name, owner, plan, words, covers):
    """Return the job of an owner with a name that begins with covers of its input words."""
    return Job(name, plan, words, Runner(plan.made_net(), owner.public, covers))
