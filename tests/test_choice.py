"""Points 21 to 23: totals, best sets with their papers, and the looker."""

import copy
import inspect
import random
import unittest

from tests.tasks import all_sets, plain_least, plain_size, plain_total, random_task, read_paper
from tests.things import SIXTY_FIGURES, odd_things
from whatindex.choice import best, look_best, total
from whatindex.errors import NoProof

# Three designs, two items: 0 helps the first, 1 and 2 together help both much.
TASK = (
    [(2, [(10, ()), (6, (0,)), (1, (1, 2))]), (1, [(20, ()), (15, (1,)), (5, (1, 2))])],
    [3, 4, 5],
    [2, 3, 4],
)
# What a set costs, by hand: the first item twice, the second once, the keeps.
TOTALS = {
    (): 20 + 20,
    (0,): 12 + 20 + 3,
    (1,): 20 + 15 + 4,
    (2,): 20 + 20 + 5,
    (0, 1): 12 + 15 + 7,
    (0, 2): 12 + 20 + 8,
    (1, 2): 2 + 5 + 9,
    (0, 1, 2): 2 + 5 + 12,
}
EMPTY = ([], [], [])


def full_paper(many, at=0):
    """The paper that parts by each design in order and closes at the end of each road."""
    return [-1] if at == many else [at] + full_paper(many, at + 1) * 2


class TotalTest(unittest.TestCase):
    def test_by_hand(self):
        for chosen, wanted in TOTALS.items():
            self.assertEqual(total(TASK, chosen), wanted, chosen)

    def test_no_item_no_design(self):
        self.assertEqual(total(EMPTY, ()), 0)
        self.assertEqual(total(([], [7, 8], [1, 1]), (1,)), 8)
        self.assertEqual(total(([(3, [(7, ())])], [], []), ()), 21)

    def test_the_least_of_several_offers(self):
        task = ([(1, [(9, ()), (4, ()), (6, ()), (5, (0,)), (3, (0,)), (8, (0,))])], [0], [0])
        self.assertEqual((total(task, ()), total(task, (0,))), (4, 3))

    def test_an_offer_needs_all_its_needs(self):
        task = ([(1, [(9, ()), (1, (0, 1))])], [0, 0], [0, 0])
        self.assertEqual([total(task, chosen) for chosen in ((), (0,), (1,), (0, 1))], [9, 9, 9, 1])

    def test_by_chance(self):
        for seed in range(60):
            task = random_task(random.Random(seed))
            for chosen in all_sets(len(task[1])):
                self.assertEqual(total(task, chosen), plain_total(task, chosen))


class BestTest(unittest.TestCase):
    def check(self, task, room):
        """Best of all sets gone through, with a paper that both readers let by."""
        told = best(task, room=room)
        self.assertIs(type(told), tuple)
        chosen, least, paper = told
        self.assertIs(type(chosen), tuple)
        self.assertIn(chosen, all_sets(len(task[1])))
        self.assertLessEqual(plain_size(task, chosen), room)
        self.assertEqual(least, plain_total(task, chosen))
        self.assertEqual(least, plain_least(task, room))
        self.assertIs(type(paper), list)
        self.assertTrue(all(type(number) is int for number in paper))
        self.assertTrue(read_paper(task, room, least, paper))
        self.assertIsNone(look_best(task, told, room=room))
        return told

    def test_by_hand(self):
        for room, wanted in ((0, ()), (1, ()), (2, (0,)), (3, (0,)), (4, (0,)), (5, (0, 1)), (6, (0, 1)), (7, (1, 2))):
            self.assertEqual(self.check(TASK, room)[:2], (wanted, TOTALS[wanted]), room)
        for room in (8, 9, 10, 1000, 10 ** 9):
            self.assertEqual(self.check(TASK, room)[:2], ((1, 2), 16))

    def test_no_item(self):
        self.assertEqual(self.check(EMPTY, 0), ((), 0, [-1]))
        self.assertEqual(self.check(([], [1, 2], [0, 0]), 5)[:2], ((), 0))

    def test_no_design(self):
        self.assertEqual(self.check(([(2, [(4, ()), (3, ())])], [], []), 0), ((), 6, [-1]))

    def test_a_design_without_a_size_fits_into_no_room(self):
        task = ([(1, [(9, ()), (1, (0,))])], [2], [0])
        self.assertEqual(self.check(task, 0)[:2], ((0,), 3))

    def test_a_keep_that_is_as_dear_as_what_it_saves(self):
        task = ([(2, [(9, ()), (4, (0,))])], [10], [1])
        self.assertEqual(self.check(task, 5)[1], 18)

    def test_the_room_is_the_sizes_together(self):
        task = ([(1, [(50, ()), (30, (0,))]), (1, [(50, ()), (30, (1,))])], [0, 0], [4, 5])
        for room, least in ((3, 100), (4, 80), (8, 80), (9, 60), (10, 60)):
            self.assertEqual(self.check(task, room)[1], least)

    def test_great_numbers(self):
        high = 10 ** 7
        offered = [(10 ** 4, ()), (0, (0, 1)), (5000, (2,))]
        task = ([(100, offered)] * 12, [high, high, 1], [high, high, high])
        self.assertEqual(self.check(task, 10 ** 9)[1], 100 * 5000 * 12 + 1)
        self.assertEqual(self.check(task, high - 1)[1], 100 * 10 ** 4 * 12)

    def test_by_chance(self):
        for seed in range(250):
            chance = random.Random(seed)
            task = random_task(chance)
            sizes = sum(task[2])
            for room in (0, chance.randint(0, 10), chance.randint(0, sizes), sizes, sizes + 1, 10 ** 9):
                with self.subTest(seed=seed, room=room):
                    self.check(task, room)

    def test_ten_designs_and_twelve_items(self):
        for seed in range(6):
            chance = random.Random(seed)
            task = random_task(chance, designs=10, items=12)
            for room in (0, 10, 20, 40, 10 ** 9):
                with self.subTest(seed=seed, room=room):
                    self.check(task, room)

    def test_nothing_is_changed_and_all_is_the_askers_own(self):
        task = copy.deepcopy(TASK)
        told = best(task, room=9)
        self.assertEqual(task, TASK)
        kept = copy.deepcopy(told)
        look_best(task, told, room=9)
        total(task, (0, 1))
        self.assertEqual((task, told), (TASK, kept))
        told[2].clear()
        self.assertEqual(best(task, room=9), kept)
        told = best(task, room=9)
        task[0].clear()
        task[1][:] = [0, 0, 0]
        best(task, room=9)
        self.assertEqual(told, kept)

    def test_parameters(self):
        self.assertEqual(str(inspect.signature(total)), "(task, chosen)")
        self.assertEqual(str(inspect.signature(best)), "(task, *, room)")
        self.assertEqual(str(inspect.signature(look_best)), "(task, thing, *, room)")
        told = best(room=9, task=TASK)
        self.assertEqual(total(chosen=told[0], task=TASK), told[1])
        self.assertIsNone(look_best(room=9, thing=told, task=TASK))
        with self.assertRaises(TypeError):
            best(TASK, 9)
        with self.assertRaises(TypeError):
            look_best(TASK, told, 9)


class LookTest(unittest.TestCase):
    def fault(self, thing, task=TASK, room=9):
        """Where the fault is; None of what is let by."""
        kept = copy.deepcopy((task, thing))
        try:
            told = look_best(task, thing, room=room)
        except NoProof as error:
            self.assertIs(type(error.where), str)
            told = error.where
        self.assertEqual((task, thing), kept)
        return told

    def test_any_such_paper_is_let_by(self):
        for paper in (best(TASK, room=9)[2], full_paper(3), [1, 2, -1, -1, -1], [2, 1, -1, -1, -1]):
            self.assertIsNone(self.fault(((1, 2), 16, paper)), paper)
        self.assertIsNone(self.fault(((), 0, [-1]), EMPTY, 0))

    def test_no_tuple_of_three(self):
        good = best(TASK, room=9)
        for thing in odd_things() + [list(good), good[:2], good + (None,), (good,), None]:
            self.assertEqual(self.fault(thing), "form", thing)

    def test_chosen_of_another_form(self):
        _, least, paper = best(TASK, room=9)
        things = [[1, 2], (2, 1), (1, 1, 2), (1, 3), (-1, 2), (True, 2), (1, "2"), (None,), 1, None, "", ((1, 2),)]
        for thing in things + [(SIXTY_FIGURES,), (1.0, 2)] + odd_things():
            if thing not in ((), (1,)):
                self.assertEqual(self.fault((thing, least, paper)), "form", thing)
        self.assertEqual(self.fault(((0,), 0, [-1]), EMPTY), "form")

    def test_total_of_another_form(self):
        chosen, _, paper = best(TASK, room=9)
        for thing in [None, "16", 16.0, True, [16], (16,)] + odd_things():
            if type(thing) is not int:
                self.assertEqual(self.fault((chosen, thing, paper)), "form", thing)
        task = ([(1, [(1, ())])], [], [])
        self.assertIsNone(self.fault(((), 1, [-1]), task))
        self.assertEqual(self.fault(((), True, [-1]), task), "form")
        self.assertEqual(self.fault(((), False, [-1]), EMPTY), "form")

    def test_paper_of_another_form(self):
        chosen, least, paper = best(TASK, room=9)
        for thing in [tuple(paper), None, -1, "", {}, (-1,)] + odd_things():
            if not isinstance(thing, list):
                self.assertEqual(self.fault((chosen, least, thing)), "form", thing)
        for at in range(len(paper)):
            for thing in (None, "0", True, False, [paper[at]], (paper[at],), -1.0):
                spoilt = paper[:at] + [thing] + paper[at + 1:]
                self.assertEqual(self.fault((chosen, least, spoilt)), "form", spoilt)
            for thing in odd_things():
                if type(thing) is not int:
                    self.assertEqual(self.fault((chosen, least, paper[:at] + [thing] + paper[at + 1:])), "form")

    def test_beyond_the_room(self):
        self.assertEqual(self.fault(((1, 2), 16, full_paper(3)), room=6), "room")
        self.assertIsNone(self.fault(((1, 2), 16, full_paper(3)), room=7))
        self.assertEqual(self.fault(((0,), 35, full_paper(3)), room=0), "room")

    def test_another_total(self):
        for least in (15, 17, 0, -16, SIXTY_FIGURES, -SIXTY_FIGURES):
            self.assertEqual(self.fault(((1, 2), least, full_paper(3))), "total")

    def test_a_set_that_is_not_the_best(self):
        for chosen, least in TOTALS.items():
            if chosen != (1, 2):
                self.assertEqual(self.fault((chosen, least, full_paper(3))), "open", chosen)

    def test_papers_that_are_none(self):
        for paper in (
            [], [0], [0, -1], [0, -1, -1, -1], [-1, -1], [-1, 0], [3, -1, -1], [-2], [0, -2, -1], [0, 0, -1, -1, -1],
            [0, -1, 0, -1, -1], [0, 1, -1, 0, -1, -1, -1], [SIXTY_FIGURES], [-SIXTY_FIGURES], [0, 1, 2, -1, -1, -1],
            full_paper(3)[:-1], full_paper(3) + [-1], full_paper(3) + [0], full_paper(4), [1] * 1499, [-1] * 1400,
        ):
            self.assertEqual(self.fault(((1, 2), 16, paper)), "paper", paper)
        self.assertEqual(self.fault(((), 0, [0, -1, -1]), EMPTY), "paper")

    def test_a_design_may_be_parted_by_on_each_of_two_roads(self):
        self.assertIsNone(self.fault(((1, 2), 16, [0, 1, 2, -1, -1, -1, 1, 2, -1, -1, -1])))

    def test_those_with_it_stand_ahead_of_those_without(self):
        # Without 1 nothing costs less than 32, with it and without 2 nothing less than 31; with both 16.
        self.assertIsNone(self.fault(((1, 2), 16, [1, 2, -1, -1, -1])))
        task = ([(1, [(9, ()), (1, (0,))])], [2, 0], [5, 0])
        self.assertIsNone(self.fault(((0,), 3, [0, -1, -1]), task))
        # Within a room of 4 those with 0 are beyond it, those without are not.
        self.assertIsNone(self.fault(((), 9, [0, -1, -1]), task, 4))
        self.assertIsNone(self.fault(((), 9, [0, -1, 1, -1, -1]), task, 4))
        self.assertEqual(self.fault(((), 9, [1, -1, 0, -1, -1]), task, 4), "open")
        self.assertIsNone(self.fault(((), 9, [1, 0, -1, -1, 0, -1, -1]), task, 4))

    def test_a_minus_one_that_closes_nothing(self):
        for paper in ([-1], [0, -1, -1], [1, -1, -1], [2, -1, -1], [0, 1, -1, -1, -1]):
            self.assertEqual(self.fault(((1, 2), 16, paper)), "open", paper)

    def test_just_the_told_total_closes(self):
        task = ([(1, [(9, ()), (4, (0,))])], [5], [1])
        # Both sets cost 9: with 0 it is closed by just the total.
        self.assertIsNone(self.fault(((), 9, [0, -1, -1]), task))
        self.assertIsNone(self.fault(((0,), 9, [0, -1, -1]), task))
        self.assertEqual(self.fault(((), 9, [-1]), task), "open")
        cheaper = (task[0], [4], [1])
        self.assertEqual(self.fault(((), 9, [0, -1, -1]), cheaper), "open")

    def test_just_the_room_does_not_close(self):
        task = ([(1, [(9, ()), (4, (0,))])], [1], [3])
        self.assertIsNone(self.fault(((), 9, [0, -1, -1]), task, 2))
        self.assertEqual(self.fault(((), 9, [0, -1, -1]), task, 3), "open")

    def test_which_of_two_is_told(self):
        bad_paper, open_paper = [5], [-1]
        self.assertEqual(self.fault(((2, 1), 15, bad_paper), room=0), "form")
        self.assertEqual(self.fault(((1, 2), 15, [None]), room=0), "form")
        self.assertEqual(self.fault(((1, 2), 15, bad_paper), room=0), "room")
        self.assertEqual(self.fault(((1, 2), 16, open_paper), room=0), "room")
        self.assertEqual(self.fault(((1, 2), 15, bad_paper)), "total")
        self.assertEqual(self.fault(((1, 2), 15, open_paper)), "total")
        # The open one stands ahead of where the paper is none, and yet "paper" is told.
        self.assertEqual(self.fault(((1, 2), 16, [0, -1, 7])), "paper")
        self.assertEqual(self.fault(((1, 2), 16, [0, -1, -1, -1])), "paper")
        self.assertEqual(self.fault(((1, 2), 16, [0, -1])), "paper")

    def test_papers_spoilt_by_chance(self):
        """Whatever is done to a paper, it is let by just where a reader of the tests' own lets it by."""
        seen = set()
        for seed in range(150):
            chance = random.Random(seed)
            task = random_task(chance, items=chance.randint(1, 4))
            room = chance.randint(0, sum(task[2]))
            chosen, least, paper = best(task, room=room)
            for _ in range(25):
                spoilt = list(paper)
                for _ in range(chance.randint(1, 2)):
                    at = chance.randrange(len(spoilt) + 1)
                    spoilt[at:at + chance.choice((0, 1, 1, 2))] = chance.choice(([], [-1], [chance.randint(-2, 6)]))
                wanted = read_paper(task, room, least, spoilt)
                told = self.fault((chosen, least, spoilt), task, room)
                self.assertEqual(told is None, wanted, (task, room, spoilt))
                seen.add(told)
        self.assertEqual(seen, {None, "paper", "open"})

    def test_no_wrong_set_is_let_by(self):
        """Another set with its own total and any paper is let by only where it is as good."""
        for seed in range(60):
            chance = random.Random(seed)
            task = random_task(chance, designs=chance.randint(1, 4), items=3)
            room = chance.randint(0, sum(task[2]))
            _, least, paper = best(task, room=room)
            for chosen in all_sets(len(task[1])):
                own = plain_total(task, chosen)
                for each in (paper, full_paper(len(task[1])), [-1]):
                    told = self.fault((chosen, own, each), task, room)
                    if plain_size(task, chosen) > room:
                        self.assertEqual(told, "room")
                    elif own > least:
                        self.assertEqual(told, "open")
                self.assertEqual(self.fault((chosen, own - 1, paper), task, 10 ** 9), "total")


if __name__ == "__main__":
    unittest.main()
