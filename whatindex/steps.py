"""Steps: designs made and dropped one by one, such that each set between is let."""

from whatindex.choice import are_designs, least_pages, sum_of
from whatindex.errors import NoProof

DEEDS = ("make", "drop")


class Journey:
    """From one set of a task's designs to another one, and which sets are let meanwhile."""

    def __init__(self, task, now, goal, room, bounds):
        items, keeps, sizes = task
        if bounds is None:
            bounds = [max(least_pages(offered, now), least_pages(offered, goal)) for weight, offered in items]
        self.now = now
        self.goal = goal
        self.room = room
        self.sizes = sizes
        # Of each item the needs of those offers that are within its bound: one of them must be met.
        self.enough = [
            [needs for touched, needs in offered if touched <= bound]
            for (weight, offered), bound in zip(items, bounds)
        ]
        self.told = {}

    def lets(self, chosen):
        """Whether a set is let; reckoned once of each, as several steps lead to it."""
        if chosen not in self.told:
            self.told[chosen] = is_let(self, chosen)
        return self.told[chosen]


def is_let(journey, chosen):
    """Whether a set is within the room, and each item within its bound by it."""
    if sum_of(journey.sizes, chosen) > journey.room:
        return False
    met = [[all([k in chosen for k in needs]) for needs in within] for within in journey.enough]
    return all([any(truths) for truths in met])


def needed_steps(now, goal):
    """The steps that lead from one set to another one, in no order that matters."""
    makes = [("make", k) for k in goal if k not in now]
    return makes + [("drop", k) for k in now if k not in goal]


def stepped(chosen, step):
    """The set that a step leads to."""
    deed, k = step
    if deed == "make":
        return tuple(sorted(chosen + (k,)))
    return tuple([other for other in chosen if other != k])


def next_steps(journey, chosen):
    """The steps that are left to do behind a set."""
    left = needed_steps(journey.now, journey.goal)
    return [(deed, k) for deed, k in left if (k in chosen) == (deed == "drop")]


def let_moves(journey, chosen):
    """The steps that lead on from a set to let ones, with these."""
    moves = [(step, stepped(chosen, step)) for step in next_steps(journey, chosen)]
    return [(step, there) for step, there in moves if journey.lets(there)]


def all_come_to(journey):
    """The let sets that can be come to, each with the steps that lead to it."""
    if not journey.lets(journey.now):
        return {}
    roads = {journey.now: ()}
    layer = [journey.now]
    while layer:
        following = []
        for chosen in layer:
            for step, there in let_moves(journey, chosen):
                if there not in roads:
                    roads[there] = roads[chosen] + (step,)
                    following.append(there)
        layer = following
    return roads


def steps(task, now, goal, *, room, bounds=None):
    """The steps from one set to another one, or the sets that can be come to, if it is none of these."""
    roads = all_come_to(Journey(task, now, goal, room, bounds))
    if goal in roads:
        return "steps", list(roads[goal])
    return "none", sorted(roads)


def is_step(task, thing):
    """Whether a thing is a step by a design of a task."""
    if not isinstance(thing, tuple) or len(thing) != 2:
        return False
    deed, k = thing
    return deed in DEEDS and are_designs(task, (k,))


def are_told_steps(task, thing):
    """Whether a thing has the form of what `steps` tells."""
    if not isinstance(thing, tuple) or len(thing) != 2 or not isinstance(thing[1], list):
        return False
    word, told = thing
    if word == "steps":
        return all([is_step(task, step) for step in told])
    return word == "none" and all([are_designs(task, stand) for stand in told])


def look_at_steps(journey, told):
    """Refuse steps that don't lead to the goal by let sets."""
    if sorted(told) != sorted(needed_steps(journey.now, journey.goal)):
        raise NoProof("steps")
    chosen = journey.now
    sets = [chosen]
    for step in told:
        chosen = stepped(chosen, step)
        sets.append(chosen)
    if not all([journey.lets(each) for each in sets]):
        raise NoProof("slow")


def are_stands(journey, told):
    """Whether sets are rising, let, without the goal, and not to be left by a step to a let one."""
    there = {stand: True for stand in told}
    if told != sorted(there) or journey.goal in there:
        return False
    if journey.lets(journey.now) and journey.now not in there:
        return False
    if not all([journey.lets(stand) for stand in told]):
        return False
    return all([on in there for stand in told for step, on in let_moves(journey, stand)])


def look_steps(task, now, goal, thing, *, room, bounds=None):
    """Refuse what shows neither how to come from one set to another one nor that there is no way."""
    if not are_told_steps(task, thing):
        raise NoProof("form")
    journey = Journey(task, now, goal, room, bounds)
    word, told = thing
    if word == "steps":
        look_at_steps(journey, told)
    elif not are_stands(journey, told):
        raise NoProof("stands")
