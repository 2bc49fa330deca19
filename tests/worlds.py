"""A store with indexes, and the document's words on them, edited side by side by a seeded chance."""

import random

from tests.models import PlainIndex, PlainStore
from whatindex.indexes import Index
from whatindex.shapes import Shape
from whatindex.stores import Store

WORDS = ("a", "ab", "b", "zz")
MOST = {"tree": 4, "hash": 3, "bits": 1}


class World:
    """A store and indexes, and the document's words on them side by side."""

    def __init__(self, seed):
        self.chance = random.Random(seed)
        pick = self.chance.randint
        self.shape = Shape(rows=pick(2, 8), entries=pick(2, 8), fan=pick(2, 8), buckets=pick(1, 8), bits=pick(2, 64))
        names = self.chance.sample("pqrstu", pick(1, 6))
        self.form = tuple((name, self.chance.choice(("number", "word"))) for name in names)
        self.names = names
        kind = self.chance.choice(("heap", "sorted", "hashed"))
        key = () if kind == "heap" else self.columns(1, 3)
        self.store = Store(self.shape, self.form, kind, key=key)
        self.plain = PlainStore(self.shape, self.form, kind, key)
        self.pairs = {}

    def columns(self, least, most):
        many = self.chance.randint(least, min(most, len(self.names)))
        return tuple(self.chance.sample(self.names, many))

    def value(self, column):
        kind = dict(self.form)[column]
        return self.chance.choice(WORDS) if kind == "word" else self.chance.randint(-2, 2)

    def row(self):
        return tuple(self.value(name) for name in self.names)

    def condition(self, column):
        if self.chance.random() < 0.6:
            return (column, "is", self.value(column))
        low, high = self.value(column), self.value(column)
        return (column, "from", *self.chance.choice(((low, high), (low, None), (None, high))))

    def ask(self):
        conditions = tuple(self.condition(column) for column in self.columns(0, 6))
        return (self.columns(1, 6), conditions, self.columns(0, 4), self.chance.choice((None, None, 1, 2, 5, 20)))

    def ask_along(self):
        """An ask whose order the columns of a tree or the key give."""
        trees = [design[1] for design in self.pairs if design[0] == "tree"] + [self.store.key]
        columns = self.chance.choice(trees)
        fixed = [column for column in columns if self.chance.random() < 0.4]
        conditions = tuple((column, "is", self.value(column)) for column in fixed)
        order = tuple(column for column in columns if column not in fixed)
        wants = columns if columns and self.chance.random() < 0.5 else self.columns(1, 6)
        return (wants, conditions, order, self.chance.choice((1, 2, 3, 7)))

    def item(self):
        """An item of any word, edits more often than asks."""
        word = self.chance.choice(("ask", "put", "drop", "drop", "set", "set"))
        if word == "ask":
            return (word, self.ask())
        if word == "put":
            return (word, self.row())
        conditions = tuple(self.condition(column) for column in self.columns(0, 2))
        if word == "drop":
            return (word, conditions)
        column = self.chance.choice(self.names)
        return (word, conditions, column, self.value(column))

    def make(self):
        kind = self.chance.choice(("tree", "tree", "hash", "bits"))
        design = (kind, self.columns(1, MOST[kind]))
        if design not in self.pairs and len(self.pairs) < 10:
            self.pairs[design] = (Index(self.store, design), PlainIndex(self.plain, design))

    def tell(self, word, number, row, *more):
        for index, other in self.pairs.values():
            getattr(index, word)(number, row, *more)
            getattr(other, word)(number, dict(zip(self.names, row)), *more)

    def edit(self):
        """Put, drop or change a row on both sides, as tests of costs and ways need it."""
        word = self.chance.choice(("put", "put", "put", "drop", "change"))
        if word == "put" and self.plain.next <= 60:
            row = self.row()
            number, _ = self.store.put(row)
            self.plain.put(row)
            self.tell("put", number, row)
        elif word != "put" and self.plain.rows:
            number = self.chance.choice(sorted(self.plain.rows))
            more = []
            if word == "change":
                column = self.chance.choice(self.names)
                more = [column, self.value(column)]
            self.tell(word, number, self.store.row(number), *more)
            getattr(self.store, word)(number, *more)
            getattr(self.plain, word)(number, *more)

    def indexes(self):
        pairs = list(self.pairs.values())
        self.chance.shuffle(pairs)
        return [index for index, _ in pairs], [other for _, other in pairs]
