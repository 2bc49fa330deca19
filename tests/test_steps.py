"""Points 24 and 25: steps from one set to another one, stands where there are none, and the looker."""

import copy
import inspect
import itertools
import random
import unittest

from tests.tasks import all_sets, are_good_steps, bounds_by, is_let, one_step_on, plain_stands, random_task
from tests.things import SIXTY_FIGURES, odd_things
from whatindex.errors import NoProof
from whatindex.steps import look_steps, steps

# The item is as quick by either design, slow without; each is 3 large.
SWAP = ([(1, [(9, ()), (2, (0,)), (2, (1,))])], [0, 0], [3, 3])
# Nothing is bound but the room; sizes 1, 2, 3, 4.
SIZES = ([], [0, 0, 0, 0], [1, 2, 3, 4])


class StepsTest(unittest.TestCase):
    def check(self, task, now, goal, room, bounds=None):
        """What is told, held against all that can be come to, and let by by the looker."""
        kept = copy.deepcopy((task, bounds))
        told = steps(task, now, goal, room=room, bounds=bounds)
        self.assertIs(type(told), tuple)
        word, things = told
        self.assertIs(type(things), list)
        limits = bounds_by(task, now, goal) if bounds is None else bounds
        stands = plain_stands(task, now, goal, room, limits)
        if goal in stands:
            self.assertEqual(word, "steps")
            self.assertTrue(are_good_steps(task, now, goal, things, room, limits))
        else:
            self.assertEqual(told, ("none", stands))
        self.assertIsNone(look_steps(task, now, goal, told, room=room, bounds=bounds))
        self.assertEqual((task, bounds), kept)
        return told

    def test_there_and_back(self):
        self.assertEqual(self.check(SWAP, (), (0,), 3), ("steps", [("make", 0)]))
        self.assertEqual(self.check(SWAP, (0,), (), 3), ("steps", [("drop", 0)]))
        self.assertEqual(self.check(SWAP, (0,), (1,), 6), ("steps", [("make", 1), ("drop", 0)]))
        self.assertEqual(self.check(SWAP, (1,), (0,), 6), ("steps", [("make", 0), ("drop", 1)]))

    def test_to_itself(self):
        for chosen, size in (((), 0), ((0,), 3), ((0, 1), 6)):
            self.assertEqual(self.check(SWAP, chosen, chosen, size), ("steps", []))
        self.assertEqual(self.check(SWAP, (0,), (0,), 2), ("none", []))
        self.assertEqual(self.check(SWAP, (0,), (0,), 3, [1]), ("none", []))
        self.assertEqual(self.check(([], [], []), (), (), 0), ("steps", []))

    def test_a_room_that_is_just_enough(self):
        self.assertEqual(self.check(SWAP, (0,), (1,), 6)[0], "steps")
        self.assertEqual(self.check(SWAP, (0,), (1,), 5), ("none", [(0,)]))
        self.assertEqual(self.check(SWAP, (0,), (1,), 3), ("none", [(0,)]))
        self.assertEqual(self.check(SWAP, (0,), (1,), 2), ("none", []))
        self.assertEqual(self.check(SWAP, (), (0,), 3)[0], "steps")
        self.assertEqual(self.check(SWAP, (), (0,), 2), ("none", [()]))

    def test_bounds(self):
        self.assertEqual(self.check(SWAP, (0,), (1,), 5, [9]), ("steps", [("drop", 0), ("make", 1)]))
        self.assertEqual(self.check(SWAP, (0,), (1,), 5, [8]), ("none", [(0,)]))
        self.assertEqual(self.check(SWAP, (0,), (1,), 6, [2])[0], "steps")
        self.assertEqual(self.check(SWAP, (0,), (1,), 6, [1]), ("none", []))
        self.assertEqual(self.check(SWAP, (), (0,), 6, [2]), ("none", []))
        self.assertEqual(self.check(SWAP, (0,), (), 6, [2]), ("none", [(0,)]))

    def test_bounds_left_out_are_the_greater_of_both_ends(self):
        task = ([(1, [(9, ()), (5, (0,)), (7, (1,))]), (1, [(9, ()), (6, (0,)), (4, (1,))])], [0, 0], [1, 1])
        # By 0 they take 5 and 6, by 1 they take 7 and 4: bound are 7 and 6.
        self.assertEqual(self.check(task, (0,), (1,), 1), ("none", [(0,)]))
        self.assertEqual(self.check(task, (0,), (1,), 2)[0], "steps")
        self.assertEqual(self.check(task, (0,), (1,), 2, [7, 6])[0], "steps")
        self.assertEqual(self.check(task, (0,), (1,), 2, [6, 6]), ("none", [(0,), (0, 1)]))
        self.assertEqual(self.check(task, (0,), (1,), 2, [7, 5]), ("none", []))

    def test_where_now_is_not_let(self):
        self.assertEqual(self.check(SIZES, (3,), (), 3), ("none", []))
        self.assertEqual(self.check(SIZES, (3,), (3,), 3), ("none", []))
        self.assertEqual(self.check(SIZES, (0, 3), (0,), 4), ("none", []))

    def test_where_goal_is_not_let(self):
        self.assertEqual(self.check(SIZES, (), (3,), 3), ("none", [()]))
        self.assertEqual(self.check(SIZES, (), (0, 3), 4), ("none", [(), (0,), (3,)]))

    def test_several_must_be_dropped_first(self):
        word, told = self.check(SIZES, (0, 1, 2), (3,), 7)
        self.assertEqual(word, "steps")
        self.assertEqual(self.check(SIZES, (0, 1, 2), (3,), 6)[0], "steps")
        word, told = self.check(SIZES, (0, 2), (3,), 4)
        self.assertEqual(sorted(told[:2]), [("drop", 0), ("drop", 2)])
        self.assertEqual(told[2], ("make", 3))
        bound = ([(1, [(5, ()), (1, (0,)), (1, (3,))])], SIZES[1], SIZES[2])
        self.assertEqual(self.check(bound, (0, 1), (3,), 5)[1][0], ("drop", 1))
        self.assertEqual(self.check(bound, (0, 1), (3,), 4), ("none", [(0,), (0, 1)]))

    def test_designs_of_both_stay(self):
        self.assertEqual(self.check(SIZES, (0, 1), (1, 2), 6)[0], "steps")
        word, told = self.check(SIZES, (0, 1), (1, 2), 5)
        self.assertEqual(told, [("drop", 0), ("make", 2)])
        self.assertEqual(self.check(SIZES, (0, 1), (1, 2), 4), ("none", [(0, 1), (1,)]))

    def test_designs_of_neither_are_no_help(self):
        # By 1 alone it would go; but 1 is of neither set.
        task = ([(1, [(9, ()), (2, (0,)), (2, (1,)), (2, (2,))])], [0, 0, 0], [3, 1, 3])
        self.assertEqual(self.check(task, (0,), (2,), 5), ("none", [(0,)]))

    def test_stands_are_rising(self):
        word, told = self.check(SIZES, (), (0, 1, 2, 3), 6)
        self.assertEqual(word, "none")
        self.assertEqual(told, [(), (0,), (0, 1), (0, 1, 2), (0, 2), (0, 3), (1,), (1, 2), (1, 3), (2,), (3,)])

    def test_by_chance(self):
        seen = []
        for seed in range(400):
            chance = random.Random(seed)
            task = random_task(chance)
            sets = all_sets(len(task[1]))
            now, goal = chance.choice(sets), chance.choice(sets)
            room = chance.randint(0, sum(task[2]))
            bounds = None
            if chance.random() < 0.5:
                bounds = [bound + chance.choice((0, 0, 1, 9, -1)) for bound in bounds_by(task, now, goal)]
            with self.subTest(seed=seed):
                seen.append(self.check(task, now, goal, room, bounds))
        self.assertGreater(sum(word == "steps" for word, _ in seen), 50)
        self.assertGreater(sum(word == "none" and told != [] for word, told in seen), 40)
        self.assertGreater(sum(told == ("none", []) for told in seen), 20)

    def test_ten_designs_and_twelve_items(self):
        for seed in range(3):
            chance = random.Random(seed)
            task = random_task(chance, designs=10, items=12)
            for now, goal in (((), tuple(range(10))), (tuple(range(10)), ()), ((0, 2, 4, 6, 8), (1, 3, 5, 7, 9))):
                for room in (sum(task[2]), sum(task[2]) // 2):
                    with self.subTest(seed=seed, now=now, room=room):
                        self.check(task, now, goal, room)

    def test_what_is_told_is_the_askers_own(self):
        for room in (6, 5):
            told = steps(SWAP, (0,), (1,), room=room)
            kept = copy.deepcopy(told)
            told[1].clear()
            self.assertEqual(steps(SWAP, (0,), (1,), room=room), kept)
        task = copy.deepcopy(SWAP)
        told = steps(task, (0,), (1,), room=6)
        task[0].clear()
        task[2][:] = [9, 9]
        self.assertEqual(told, ("steps", [("make", 1), ("drop", 0)]))

    def test_parameters(self):
        self.assertEqual(str(inspect.signature(steps)), "(task, now, goal, *, room, bounds=None)")
        self.assertEqual(str(inspect.signature(look_steps)), "(task, now, goal, thing, *, room, bounds=None)")
        told = steps(bounds=[2], room=6, goal=(1,), now=(0,), task=SWAP)
        self.assertIsNone(look_steps(bounds=[2], room=6, thing=told, goal=(1,), now=(0,), task=SWAP))
        with self.assertRaises(TypeError):
            steps(SWAP, (0,), (1,), 6)
        with self.assertRaises(TypeError):
            look_steps(SWAP, (0,), (1,), told, 6)


class LookTest(unittest.TestCase):
    def fault(self, thing, task=SWAP, now=(0,), goal=(1,), room=6, bounds=None):
        """Where the fault is; None of what is let by."""
        kept = copy.deepcopy((task, thing, bounds))
        try:
            told = look_steps(task, now, goal, thing, room=room, bounds=bounds)
        except NoProof as error:
            self.assertIs(type(error.where), str)
            told = error.where
        self.assertEqual((task, thing, bounds), kept)
        return told

    GOOD = ("steps", [("make", 1), ("drop", 0)])

    def test_any_thing(self):
        for thing in odd_things() + [None, list(self.GOOD), self.GOOD[:1], self.GOOD + ([],), self.GOOD[1], (self.GOOD,)]:
            self.assertEqual(self.fault(thing), "form", thing)

    def test_another_word(self):
        for word in ["", "step", "Steps", "stands", "none ", None, True, 0, ("steps",), ["steps"]] + odd_things():
            self.assertEqual(self.fault((word, self.GOOD[1])), "form", word)
            self.assertEqual(self.fault((word, [])), "form", word)

    def test_the_second_thing_is_no_list(self):
        for word in ("steps", "none"):
            for thing in [None, "", 0, {}, tuple(self.GOOD[1])] + odd_things():
                if not isinstance(thing, list):
                    self.assertEqual(self.fault((word, thing)), "form", thing)

    def test_steps_of_another_form(self):
        things = [
            ["make", 1], ("make",), ("make", 1, 1), ("Make", 1), ("made", 1), ("", 1), (None, 1), (1, "make"), "make",
            ("make", 2), ("make", -1), ("drop", 2), ("make", SIXTY_FIGURES), ("make", True), ("drop", False), ("make", "1"),
            ("make", None), ("make", (1,)), ("make", 1.0), (("make",), 1), (["make"], 1), (1,), (), 1, None,
        ]
        for thing in things + odd_things():
            for at in range(3):
                told = list(self.GOOD[1])
                told.insert(at, thing)
                self.assertEqual(self.fault(("steps", told)), "form", thing)
                if at < 2:
                    told = list(self.GOOD[1])
                    told[at] = thing
                    self.assertEqual(self.fault(("steps", told)), "form", thing)

    def test_stands_of_another_form(self):
        things = [
            [0], (1, 0), (0, 0), (2,), (-1,), (0, 2), (True,), (False, 1), ("0",), (None,), ((0,),), 0, None, "", (1.0,),
            (SIXTY_FIGURES,), ("make", 1),
        ]
        for thing in things + odd_things():
            if thing not in ((), (1,)) or isinstance(thing, list):
                self.assertEqual(self.fault(("none", [thing]), room=5), "form", thing)
                self.assertEqual(self.fault(("none", [(0,), thing]), room=5), "form", thing)

    def test_a_step_among_stands_and_a_stand_among_steps(self):
        self.assertEqual(self.fault(("none", self.GOOD[1])), "form")
        self.assertEqual(self.fault(("steps", [(0,)])), "form")
        self.assertEqual(self.fault(("steps", [(0, 1)])), "form")

    def test_steps_that_are_not_each_needed_one_once(self):
        make, drop = self.GOOD[1]
        for told in (
            [], [make], [drop], [make, make], [make, drop, make], [make, drop, drop], [("make", 0), ("drop", 1)],
            [make, ("drop", 1)], [make, drop, ("make", 0)], [("drop", 1), drop], [make, make, drop, drop],
        ):
            self.assertEqual(self.fault(("steps", told)), "steps", told)
        self.assertEqual(self.fault(("steps", [make]), now=(0,), goal=(0,)), "steps")
        self.assertEqual(self.fault(("steps", [make, ("drop", 1)]), now=(0,), goal=(0,)), "steps")
        self.assertIsNone(self.fault(("steps", []), now=(0,), goal=(0,)))

    def test_a_set_that_is_not_let(self):
        make, drop = self.GOOD[1]
        self.assertIsNone(self.fault(("steps", [make, drop])))
        self.assertEqual(self.fault(("steps", [drop, make])), "slow")
        self.assertEqual(self.fault(("steps", [make, drop]), room=5), "slow")
        self.assertIsNone(self.fault(("steps", [drop, make]), room=5, bounds=[9]))
        self.assertEqual(self.fault(("steps", [drop, make]), room=2, bounds=[9]), "slow")
        self.assertEqual(self.fault(("steps", [make, drop]), bounds=[1]), "slow")

    def test_an_end_that_is_not_let(self):
        task = ([], [0, 0], [3, 5])
        self.assertEqual(self.fault(("steps", []), task, (1,), (1,), 4), "slow")
        self.assertEqual(self.fault(("steps", [("drop", 1)]), task, (1,), (), 4), "slow")
        self.assertEqual(self.fault(("steps", [("make", 1)]), task, (), (1,), 4), "slow")
        self.assertIsNone(self.fault(("steps", [("make", 1)]), task, (), (1,), 5))
        bound = ([(1, [(9, ()), (2, (0,))])], [0], [0])
        self.assertEqual(self.fault(("steps", [("make", 0)]), bound, (), (0,), 0, [8]), "slow")
        self.assertEqual(self.fault(("steps", [("drop", 0)]), bound, (0,), (), 0, [8]), "slow")
        self.assertIsNone(self.fault(("steps", [("drop", 0)]), bound, (0,), (), 0, [9]))

    def test_which_of_two_is_told(self):
        self.assertEqual(self.fault(("steps", [("drop", 0), ("make", 2)]), room=0), "form")
        self.assertEqual(self.fault(("steps", [("drop", 0)]), room=0), "steps")
        self.assertEqual(self.fault(("none", [(1,), (0,), (9,)])), "form")
        self.assertEqual(self.fault(("none", [(1,), (0,)])), "stands")

    def test_stands(self):
        self.assertIsNone(self.fault(("none", [(0,)]), room=5))
        # Now is not there; a set isn't let; goal is there; not rising; twice.
        self.assertEqual(self.fault(("none", []), room=5), "stands")
        self.assertEqual(self.fault(("none", [(0,), (0, 1)]), room=5), "stands")
        self.assertEqual(self.fault(("none", [(), (0,)]), room=5), "stands")
        self.assertEqual(self.fault(("none", [(0,), (1,)]), room=5), "stands")
        self.assertEqual(self.fault(("none", [(1,)]), room=5), "stands")
        self.assertEqual(self.fault(("none", [(0,), (0,)]), room=5), "stands")

    def test_a_let_set_one_step_on_is_missing(self):
        # From () to (0, 3) within 4: (), (0,) and (3,) are come to.
        for stands, wanted in (
            ([(), (0,), (3,)], None), ([(), (0,)], "stands"), ([(), (3,)], "stands"), ([()], "stands"),
            ([(0,), (3,)], "stands"), ([(3,), (0,), ()], "stands"), ([(), (3,), (0,)], "stands"),
        ):
            self.assertEqual(self.fault(("none", stands), SIZES, (), (0, 3), 4), wanted, stands)
        # One of now alone less is a step on, too: from (0, 1, 2) to (3, ) within 5 nothing is let.
        self.assertIsNone(self.fault(("none", []), SIZES, (0, 1, 2), (3,), 5))
        bound = ([(1, [(5, ()), (1, (0,)), (1, (3,))])], SIZES[1], SIZES[2])
        self.assertIsNone(self.fault(("none", [(0,), (0, 1)]), bound, (0, 1), (3,), 4))
        self.assertEqual(self.fault(("none", [(0, 1)]), bound, (0, 1), (3,), 4), "stands")

    def test_now_that_is_not_let_need_not_be_there(self):
        self.assertIsNone(self.fault(("none", []), room=2))
        self.assertEqual(self.fault(("none", [(0,)]), room=2), "stands")

    def test_sets_that_cannot_be_come_to_are_let_by(self):
        # Point 25 names no such fault, and they show no less that there is no way.
        self.assertIsNone(self.fault(("none", [(0,), (0, 1)]), SIZES, (0,), (0, 3), 4))
        self.assertIsNone(self.fault(("none", [(0,), (2,)]), SIZES, (0,), (0, 3), 4))

    def test_stands_where_there_are_steps(self):
        for size in range(4):
            for stands in itertools.combinations([(), (0,), (0, 1), (1,)], size):
                self.assertEqual(self.fault(("none", list(stands))), "stands", stands)

    def wanted_of_stands(self, task, now, goal, stands, room, bounds):
        """Point 25's words on stands, one by one."""
        if is_let(task, now, room, bounds) and now not in stands:
            return "stands"
        for stand in stands:
            if not is_let(task, stand, room, bounds) or stand == goal:
                return "stands"
            for _, on in one_step_on(now, goal, stand):
                if is_let(task, on, room, bounds) and on not in stands:
                    return "stands"
        return None if all(one < other for one, other in zip(stands, stands[1:])) else "stands"

    def wanted_of_steps(self, task, now, goal, told, room, bounds):
        needed = [("make", k) for k in goal if k not in now] + [("drop", k) for k in now if k not in goal]
        if sorted(needed) != sorted(told):
            return "steps"
        return None if are_good_steps(task, now, goal, told, room, bounds) else "slow"

    def test_spoilt_by_chance(self):
        seen = set()
        for seed in range(300):
            chance = random.Random(seed)
            task = random_task(chance, designs=chance.randint(1, 4), items=chance.randint(0, 3))
            sets = all_sets(len(task[1]))
            now, goal = chance.choice(sets), chance.choice(sets)
            room = chance.randint(0, sum(task[2]))
            limits = bounds_by(task, now, goal)
            word, told = steps(task, now, goal, room=room)
            for _ in range(12):
                spoilt = list(told)
                k = chance.randrange(len(task[1]))
                new = (chance.choice(("make", "drop")), k) if word == "steps" else chance.choice(sets)
                at = chance.randrange(len(spoilt) + 1)
                spoilt[at:at + chance.choice((0, 1, 1))] = chance.choice(([], [new]))
                if chance.random() < 0.3:
                    chance.shuffle(spoilt)
                check = self.wanted_of_steps if word == "steps" else self.wanted_of_stands
                wanted = check(task, now, goal, spoilt, room, limits)
                found = self.fault((word, spoilt), task, now, goal, room)
                self.assertEqual(found, wanted, (task, now, goal, room, word, spoilt))
                seen.add((word, found))
        self.assertEqual(seen, {("steps", None), ("steps", "steps"), ("steps", "slow"), ("none", None), ("none", "stands")})


if __name__ == "__main__":
    unittest.main()
