"""Shapes: how large pages are."""

from whatindex.errors import NoShape
from whatindex.values import is_whole

# Name, least and greatest, in the order in which a wrong one is told.
BOUNDS = (
    ("rows", 2, 8),
    ("entries", 2, 8),
    ("fan", 2, 8),
    ("buckets", 1, 8),
    ("bits", 2, 64),
)


def first_wrong(measures):
    """The name of the first wrong one of a shape's five things, or None."""
    for (name, least, greatest), thing in zip(BOUNDS, measures):
        if not is_whole(thing) or not least <= thing <= greatest:
            return name
    return None


class Shape:
    """How large pages are: five whole numbers that never change."""

    def __init__(self, *, rows=4, entries=4, fan=3, buckets=4, bits=16):
        measures = (rows, entries, fan, buckets, bits)
        wrong = first_wrong(measures)
        if wrong is not None:
            raise NoShape(wrong)
        # Kept behind properties without setters: a shape never changes.
        self.measures = measures

    @property
    def rows(self):
        """How many rows a page of rows has at most."""
        return self.measures[0]

    @property
    def entries(self):
        """How many things a page of an index has at most."""
        return self.measures[1]

    @property
    def fan(self):
        """How many pages one page of the next level leads to."""
        return self.measures[2]

    @property
    def buckets(self):
        """How many buckets a hashed store or a hash has."""
        return self.measures[3]

    @property
    def bits(self):
        """How many numbers a page of bits stands for."""
        return self.measures[4]

    def __eq__(self, other):
        return isinstance(other, Shape) and self.measures == other.measures

    def __repr__(self):
        return f"Shape({self.rows}, {self.entries}, {self.fan}, {self.buckets}, {self.bits})"
