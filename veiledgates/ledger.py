"""The ledger, which keeps bounds of noise by names and has no key."""

from veiledgates.checks import is_name
from veiledgates.errors import InvalidName, NoName, NotAllowed, Twice


class Ledger:
    """Bounds of noise for sizes, each of them under a name."""

    def __init__(self, sizes):
        self.sizes = sizes
        self._bounds = {}

    def _check_new(self, name):
        if not is_name(name):
            raise InvalidName(name)
        if name in self._bounds:
            raise Twice(name)

    def fresh(self, name):
        """Enter a fresh cover."""
        self._check_new(name)
        self._bounds[name] = self.sizes.spread

    def fixed(self, name):
        """Enter a constant."""
        self._check_new(name)
        self._bounds[name] = 0

    def led(self, name, source):
        """Enter a cover that is led to another key."""
        self._check_new(name)
        self._bounds[name] = self.bound(source) + self.sizes.leading

    def _summed_bound(self, weights, sources):
        # All sources are looked up, also those behind the last weight.
        bounds = [self.bound(source) for source in sources]
        return sum([abs(weight) * bound for weight, bound in zip(weights, bounds)])

    def summed(self, name, weights, sources):
        """Enter a sum of covers by weights."""
        self._check_new(name)
        self._bounds[name] = self._summed_bound(weights, sources)

    def weighed(self, name, weighing, sources):
        """Enter a weighing."""
        self._check_new(name)
        noise = self._summed_bound(weighing.weights(), sources)
        row = weighing.first_row_beyond(self.sizes, noise)
        if row is not None:
            raise NotAllowed(None, row)
        self._bounds[name] = self.sizes.limit

    def bound(self, name):
        """Return the bound of noise of a name."""
        if name not in self:
            raise NoName(name)
        return self._bounds[name]

    def is_sure(self, name):
        """Tell whether the bound of a name is below q / 8."""
        return self.bound(name) < self.sizes.eighth

    def names(self):
        """Return the list of the names, in the order in which they were entered."""
        return list(self._bounds)

    def twin(self):
        """Return an independent ledger in the same state."""
        other = Ledger(self.sizes)
        other._bounds = dict(self._bounds)
        return other

    def __contains__(self, name):
        # Only what is a name can be looked up: some values cannot be keys.
        return is_name(name) and name in self._bounds

    def __repr__(self):
        return f"Ledger({len(self._bounds)} names)"
