"""Point 3, the whole promise: advisors told many deeds, held against the document's words and told anew."""

import unittest

from tests.advisors import Told, told_by
from tests.tasks import bounds_by, is_let, plain_least, plain_size, plain_stands, read_paper
from tests.worlds import World
from whatindex.advisor import Advisor
from whatindex.indexes import Index
from whatindex.stores import Store
from whatindex.ways import run


class WholeTest(unittest.TestCase):
    def compare(self, told):
        """All that is cheap to compare, behind each deed."""
        advisor, plain = told.advisor, told.plain
        self.assertEqual(advisor.made(), sorted(plain.indexes))
        self.assertEqual(advisor.spent(), (plain.asks, plain.edits, plain.makings))
        self.assertEqual(advisor.touched(), plain.moved)
        self.assertEqual(len(advisor), len(plain.watched))
        self.assertEqual(repr(advisor), f"Advisor({len(plain.stores)}, {len(plain.indexes)}, {len(plain.watched)})")
        for number in plain.watched:
            self.assertEqual(advisor.cost(number), plain.cost(number))
        self.assertEqual(advisor.candidates(), plain.candidates())

    def compare_ways(self, told):
        """Ways and costs with designs that aren't made and without made ones."""
        table = told.chance.choice(sorted(told.worlds))
        made = [named[1:] for named in told.plain.indexes if named[0] == table]
        also = [design for design in {told.design(table), told.design(table)} if design not in made]
        without = [design for design in made if told.chance.random() < 0.5]
        ask = told.worlds[table].ask()
        for more in ({}, {"also": also}, {"without": without}, {"also": also, "without": without}):
            self.assertEqual(told.advisor.ways(table, ask, **more), told.plain.ways(table, ask, **more))
            for number, (name, _, _) in told.plain.watched.items():
                if name == table:
                    self.assertEqual(told.advisor.cost(number, **more), told.plain.cost(number, **more))

    def compare_advice(self, told):
        among = told.chance.choice((None, told.some_designs(5)))
        room = told.chance.choice((0, 3, 10, 25, 10 ** 9))
        designs, least, paper = told.advisor.advise(room=room, among=among)
        named = sorted(told.plain.candidates() if among is None else among)
        task = told.plain.task(named, lying=False, asks_alone=False)
        chosen = tuple(named.index(each) for each in designs)
        self.assertEqual(chosen, tuple(sorted(chosen)))
        self.assertLessEqual(plain_size(task, chosen), room)
        self.assertEqual(least, plain_least(task, room))
        self.assertTrue(read_paper(task, room, least, paper))
        return designs

    def compare_route(self, told, goal):
        room = told.chance.choice((0, 10, 30, 10 ** 9))
        named = sorted(set(goal) | set(told.plain.indexes))
        if len(named) > 10:
            return
        task = told.plain.task(named, lying=True, asks_alone=True)
        now = tuple(k for k, each in enumerate(named) if each in told.plain.indexes)
        aim = tuple(k for k, each in enumerate(named) if each in goal)
        bounds = bounds_by(task, now, aim)
        stands = plain_stands(task, now, aim, room, bounds)
        word, things = told.advisor.route(goal, room=room)
        self.assertEqual(word == "steps", aim in stands)
        if word == "none":
            self.assertEqual(things, [tuple(named[k] for k in stand) for stand in stands])
            return
        chosen = set(told.plain.indexes)
        for deed, each in things:
            self.assertEqual(deed, "drop" if each in chosen else "make")
            chosen ^= {each}
            self.assertTrue(is_let(task, tuple(sorted(named.index(one) for one in chosen)), room, bounds))
        self.assertEqual(chosen, set(goal))
        self.assertEqual(len(things), len(set(goal) ^ set(told.plain.indexes)))

    def test_many_advisors(self):
        for seed in range(30):
            with self.subTest(seed=seed):
                told = Told(seed)
                for turn in range(70):
                    one, other = told.deed()
                    self.assertEqual(one, other)
                    self.compare(told)
                    if turn % 5 == 0:
                        self.compare_ways(told)
                        designs = self.compare_advice(told)
                        self.compare_route(told, told.some_designs(5))
                        self.compare_route(told, designs)
                again = told.again()
                self.assertTrue(again == told.advisor)
                self.assertEqual(told_by(again), told_by(told.advisor))

    def test_as_told_ahead(self):
        """By designs that were only thought of an ask costs what it does when they are made then, and answers alike."""
        for seed in range(20):
            told = Told(seed)
            for _ in range(40):
                told.deed()
            for table in told.worlds:
                ask = told.worlds[table].ask()
                also = [design for design in {told.design(table), told.design(table)}
                        if (table, *design) not in told.plain.indexes]
                thought = told.advisor.ways(table, ask, also=also)
                answer = told.advisor.answer(table, ask)
                for design in also:
                    told.advisor.make(table, design)
                self.assertEqual(told.advisor.ways(table, ask), thought)
                ahead = told.advisor.spent()[0]
                self.assertEqual(told.advisor.answer(table, ask), answer)
                self.assertEqual(told.advisor.spent()[0] - ahead, min(touched for _, touched in thought))

    def test_pages_are_those_of_stores_told_the_same(self):
        """An advisor's table lies as a store of its own that is told the same puts."""
        for seed in range(10):
            world = World(seed)
            store = Store(world.shape, world.form, world.store.kind, key=world.store.key)
            advisor = Advisor(world.shape)
            advisor.table("t", world.form, world.store.kind, key=world.store.key)
            for _ in range(30):
                row = world.row()
                self.assertEqual(advisor.put("t", row), store.put(row)[0])
            ask = world.ask()
            index = Index(store, ("tree", world.columns(1, 4)))
            for way, touched in advisor.ways("t", ask, also=[index.design]):
                self.assertEqual(run(store, [index], ask, way), (advisor.answer("t", ask), touched))


if __name__ == "__main__":
    unittest.main()
