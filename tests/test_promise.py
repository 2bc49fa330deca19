"""Point 3, as far as it speaks of stores, indexes and ways: it holds whatever edits came in whatever order."""

import unittest

from tests.models import PlainWays, plain_answer
from tests.worlds import World
from whatindex.asks import ask_fault, plain
from whatindex.indexes import Index, is_design
from whatindex.ways import cheapest, run, ways


class WholeTest(unittest.TestCase):
    def tell(self, world, word, number, row, *more):
        for index, other in world.pairs.values():
            told = getattr(index, word)(number, row, *more)
            self.assertEqual(told, getattr(other, word)(number, dict(zip(world.names, row)), *more))

    def edit(self, world):
        word = world.chance.choice(("put", "put", "drop", "change", "change"))
        if word == "put" and world.plain.next <= 60:
            row = world.row()
            number, touched = world.store.put(row)
            self.assertEqual((number, touched), world.plain.put(row))
            self.tell(world, "put", number, row)
        elif world.plain.rows:
            number = world.chance.choice(sorted(world.plain.rows))
            row = world.store.row(number)
            more = []
            if word == "change":
                column = world.chance.choice(world.names)
                more = [column, world.value(column)]
            self.tell(world, "change" if more else "drop", number, row, *more)
            deed = "change" if more else "drop"
            touched = getattr(world.store, deed)(number, *more)
            self.assertEqual(touched, getattr(world.plain, deed)(number, *more))

    def compare(self, world, ask):
        self.assertIsNone(ask_fault(world.form, ask))
        indexes, others = world.indexes()
        answer = plain(world.store, ask)
        self.assertEqual(answer, plain_answer(world.plain, ask))
        told = ways(world.store, indexes, ask)
        self.assertEqual(told, PlainWays(world.plain, others, ask).told())
        for way, touched in told:
            self.assertEqual(run(world.store, indexes, ask, way), (answer, touched), way)
        least = min(touched for _, touched in told)
        self.assertEqual(cheapest(world.store, indexes, ask), [each for each in told if each[1] == least][0])

    def as_made_now(self, world, ask):
        """By an index that was only thought of and is made now, the ways are those told ahead."""
        design = ("tree", world.columns(1, 4))
        self.assertTrue(is_design(world.form, design))
        thought, made = Index(world.store, design), Index(world.store, design)
        told = ways(world.store, [thought], ask)
        self.assertEqual(ways(world.store, [made], ask), told)

    def one_run(self, seed):
        world = World(seed)
        for turn in range(90):
            self.edit(world)
            if turn % 6 == 0:
                world.make()
            if turn % 8 == 0:
                self.compare(world, world.ask())
                self.compare(world, world.ask_along())
                self.as_made_now(world, world.ask())
        self.assertEqual(world.store.pages(), world.plain.pages())
        for index, other in world.pairs.values():
            self.assertEqual(index.size(), other.size())

    def test_many_worlds(self):
        for seed in range(100):
            with self.subTest(seed=seed):
                self.one_run(seed)


if __name__ == "__main__":
    unittest.main()
