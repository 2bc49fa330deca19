"""Point 3, as far as it speaks of stores, indexes and ways: it holds whatever edits came in whatever order."""

import random
import unittest

from tests.models import PlainIndex, PlainStore, PlainWays, plain_answer
from whatindex.asks import ask_fault, plain
from whatindex.indexes import Index, is_design
from whatindex.shapes import Shape
from whatindex.stores import Store
from whatindex.ways import cheapest, run, ways

WORDS = ("a", "ab", "b", "zz")
MOST = {"tree": 4, "hash": 3, "bits": 1}


class World:
    """A store and indexes, and the document's words on them side by side."""

    def __init__(self, seed):
        self.chance = random.Random(seed)
        pick = self.chance.randint
        self.shape = Shape(rows=pick(2, 8), entries=pick(2, 8), fan=pick(2, 8), buckets=pick(1, 8), bits=pick(2, 64))
        names = self.chance.sample("pqrstu", pick(1, 6))
        self.form = tuple((name, self.chance.choice(("number", "word"))) for name in names)
        self.names = names
        kind = self.chance.choice(("heap", "sorted", "hashed"))
        key = () if kind == "heap" else self.columns(1, 3)
        self.store = Store(self.shape, self.form, kind, key=key)
        self.plain = PlainStore(self.shape, self.form, kind, key)
        self.pairs = {}

    def columns(self, least, most):
        many = self.chance.randint(least, min(most, len(self.names)))
        return tuple(self.chance.sample(self.names, many))

    def value(self, column):
        kind = dict(self.form)[column]
        return self.chance.choice(WORDS) if kind == "word" else self.chance.randint(-2, 2)

    def row(self):
        return tuple(self.value(name) for name in self.names)

    def condition(self, column):
        if self.chance.random() < 0.6:
            return (column, "is", self.value(column))
        low, high = self.value(column), self.value(column)
        return (column, "from", *self.chance.choice(((low, high), (low, None), (None, high))))

    def ask(self):
        conditions = tuple(self.condition(column) for column in self.columns(0, 6))
        return (self.columns(1, 6), conditions, self.columns(0, 4), self.chance.choice((None, None, 1, 2, 5, 20)))

    def ask_along(self):
        """An ask whose order the columns of a tree or the key give."""
        trees = [design[1] for design in self.pairs if design[0] == "tree"] + [self.store.key]
        columns = self.chance.choice(trees)
        fixed = [column for column in columns if self.chance.random() < 0.4]
        conditions = tuple((column, "is", self.value(column)) for column in fixed)
        order = tuple(column for column in columns if column not in fixed)
        wants = columns if columns and self.chance.random() < 0.5 else self.columns(1, 6)
        return (wants, conditions, order, self.chance.choice((1, 2, 3, 7)))

    def make(self):
        kind = self.chance.choice(("tree", "tree", "hash", "bits"))
        design = (kind, self.columns(1, MOST[kind]))
        if design not in self.pairs and len(self.pairs) < 10:
            self.pairs[design] = (Index(self.store, design), PlainIndex(self.plain, design))

    def indexes(self):
        pairs = list(self.pairs.values())
        self.chance.shuffle(pairs)
        return [index for index, _ in pairs], [other for _, other in pairs]


class WholeTest(unittest.TestCase):
    def tell(self, world, word, number, row, *more):
        for index, other in world.pairs.values():
            told = getattr(index, word)(number, row, *more)
            self.assertEqual(told, getattr(other, word)(number, dict(zip(world.names, row)), *more))

    def edit(self, world):
        word = world.chance.choice(("put", "put", "drop", "change", "change"))
        if word == "put" and world.plain.next <= 60:
            row = world.row()
            number, touched = world.store.put(row)
            self.assertEqual((number, touched), world.plain.put(row))
            self.tell(world, "put", number, row)
        elif world.plain.rows:
            number = world.chance.choice(sorted(world.plain.rows))
            row = world.store.row(number)
            more = []
            if word == "change":
                column = world.chance.choice(world.names)
                more = [column, world.value(column)]
            self.tell(world, "change" if more else "drop", number, row, *more)
            deed = "change" if more else "drop"
            touched = getattr(world.store, deed)(number, *more)
            self.assertEqual(touched, getattr(world.plain, deed)(number, *more))

    def compare(self, world, ask):
        self.assertIsNone(ask_fault(world.form, ask))
        indexes, others = world.indexes()
        answer = plain(world.store, ask)
        self.assertEqual(answer, plain_answer(world.plain, ask))
        told = ways(world.store, indexes, ask)
        self.assertEqual(told, PlainWays(world.plain, others, ask).told())
        for way, touched in told:
            self.assertEqual(run(world.store, indexes, ask, way), (answer, touched), way)
        least = min(touched for _, touched in told)
        self.assertEqual(cheapest(world.store, indexes, ask), [each for each in told if each[1] == least][0])

    def as_made_now(self, world, ask):
        """By an index that was only thought of and is made now, the ways are those told ahead."""
        design = ("tree", world.columns(1, 4))
        self.assertTrue(is_design(world.form, design))
        thought, made = Index(world.store, design), Index(world.store, design)
        told = ways(world.store, [thought], ask)
        self.assertEqual(ways(world.store, [made], ask), told)

    def one_run(self, seed):
        world = World(seed)
        for turn in range(90):
            self.edit(world)
            if turn % 6 == 0:
                world.make()
            if turn % 8 == 0:
                self.compare(world, world.ask())
                self.compare(world, world.ask_along())
                self.as_made_now(world, world.ask())
        self.assertEqual(world.store.pages(), world.plain.pages())
        for index, other in world.pairs.values():
            self.assertEqual(index.size(), other.size())

    def test_many_worlds(self):
        for seed in range(100):
            with self.subTest(seed=seed):
                self.one_run(seed)


if __name__ == "__main__":
    unittest.main()
