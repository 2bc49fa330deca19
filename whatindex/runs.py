"""Runs: things in rising order, leaf by leaf."""

from whatindex.pages import begun, copied
from whatindex.values import is_between


def packed(things, most):
    """Rising things in leaves of `most`, the last one perhaps with fewer."""
    return [things[at:at + most] for at in range(0, len(things), most)]


def levels_over(leaves, fan):
    """How many levels stand over so many leaves."""
    if leaves <= 1:
        return 0
    return 1 + levels_over(begun(leaves, fan), fan)


def pages_over(leaves, fan):
    """How many pages so many leaves are, with those of all levels over them."""
    if leaves <= 1:
        return leaves
    return leaves + pages_over(begun(leaves, fan), fan)


def is_in_stretch(values, same, low, high):
    """Whether values begin with the same ones, the next one being within the bounds."""
    many = len(same)
    if values[:many] != same:
        return False
    # Without bounds there need not be a next one.
    if low is None and high is None:
        return True
    return is_between(values[many], low, high)


class Run:
    """Things in leaves of one to `most`, rising from the first leaf on."""

    def __init__(self, *, most, fan, things=()):
        self.most = most
        self.spread = fan
        self.held = packed(sorted(things), most)

    def twin(self):
        """A run that lies just so, sharing no list with this one."""
        other = Run(most=self.most, fan=self.spread)
        other.held = copied(self.held)
        return other

    def leaf_for(self, thing):
        """The place of the last leaf that begins with the thing or a lesser one, else of the first."""
        for at in range(len(self.held) - 1, 0, -1):
            if self.held[at][0] <= thing:
                return at
        return 0

    def put(self, thing):
        """Put a thing: the pages touched."""
        if not self.held:
            self.held.append([thing])
            return 1
        touched = self.levels() + 2
        at = self.leaf_for(thing)
        leaf = sorted(self.held[at] + [thing])
        if len(leaf) <= self.most:
            self.held[at] = leaf
            return touched
        half = begun(len(leaf), 2)
        self.held[at:at + 1] = [leaf[:half], leaf[half:]]
        return touched + 1

    def drop(self, thing):
        """Drop a thing that is there: the pages touched."""
        touched = self.levels() + 2
        at = self.leaf_for(thing)
        self.held[at].remove(thing)
        if not self.held[at]:
            del self.held[at]
        return touched

    def leaves(self):
        """The leaves, lists of things."""
        return copied(self.held)

    def levels(self):
        """How many levels stand over the leaves."""
        return levels_over(len(self.held), self.spread)

    def pages(self):
        """How many pages the run has, leaves and those over them."""
        return pages_over(len(self.held), self.spread)

    def parts(self, same=(), *, low=None, high=None):
        """The things of a stretch, a list for each leaf that has such."""
        picked = [[thing for thing in leaf if is_in_stretch(thing[0], same, low, high)] for leaf in self.held]
        return [part for part in picked if part]
