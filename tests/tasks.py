"""Tasks by a seeded chance, and the document's words on choosing and steps, followed by going through all."""

import itertools


def random_task(chance, designs=None, items=None):
    """A task whose sets cost unlike, with designs that are worth their keep and such as aren't."""
    many = chance.randint(0, 6) if designs is None else designs
    told = []
    for _ in range(chance.randint(0, 5) if items is None else items):
        bare = chance.randint(3, 30)
        offered = [(bare, ())]
        for _ in range(chance.randint(0, 8)):
            needs = sorted(chance.sample(range(many), min(many, chance.choice((0, 1, 1, 2)))))
            offered.append((chance.randint(0, 32), tuple(needs)))
        chance.shuffle(offered)
        told.append((chance.choice((1, 1, 2, 5, 100)), offered))
    dear = chance.choice((0, 3, 30, 300))
    return told, [chance.randint(0, dear) for _ in range(many)], [chance.randint(0, 9) for _ in range(many)]


def all_sets(many):
    """All sets of so many designs, as rising tuples."""
    return [chosen for size in range(many + 1) for chosen in itertools.combinations(range(many), size)]


def pages_by(offered, chosen):
    return min(touched for touched, needs in offered if set(needs) <= set(chosen))


def plain_total(task, chosen):
    items, keeps, _ = task
    return sum(weight * pages_by(offered, chosen) for weight, offered in items) + sum(keeps[k] for k in chosen)


def plain_size(task, chosen):
    return sum(task[2][k] for k in chosen)


def plain_least(task, room):
    """The least total of all sets within a room, by going through them."""
    many = len(task[1])
    return min(plain_total(task, chosen) for chosen in all_sets(many) if plain_size(task, chosen) <= room)


def read_paper(task, room, least, paper):
    """Whether a paper is one, by the document's words: it is read once from its beginning on."""
    items, keeps, _ = task
    rest = list(paper)

    def read(taken, left):
        k = rest.pop(0)
        if k == -1:
            if plain_size(task, taken) > room:
                return True
            floor = sum(keeps[each] for each in taken)
            for weight, offered in items:
                floor += weight * min(touched for touched, needs in offered if not set(needs) & left)
            return floor >= least
        if k < -1 or k >= len(keeps) or k in taken | left:
            return False
        return read(taken | {k}, left) and read(taken, left | {k})

    try:
        return read(set(), set()) and rest == []
    except IndexError:
        return False


def bounds_by(task, now, goal):
    return [max(pages_by(offered, now), pages_by(offered, goal)) for _, offered in task[0]]


def is_let(task, chosen, room, bounds):
    if plain_size(task, chosen) > room:
        return False
    return all(pages_by(offered, chosen) <= bound for (_, offered), bound in zip(task[0], bounds))


def one_step_on(now, goal, chosen):
    """The sets one step on from one, let or not, with the steps."""
    made, dropped = set(goal) - set(now), set(now) - set(goal)
    told = [(("make", k), tuple(sorted(set(chosen) | {k}))) for k in sorted(made - set(chosen))]
    return told + [(("drop", k), tuple(sorted(set(chosen) - {k}))) for k in sorted(dropped & set(chosen))]


def plain_stands(task, now, goal, room, bounds):
    """All let sets that can be come to, by growing what can be come to until nothing is new."""
    new = {now} if is_let(task, now, room, bounds) else set()
    there = set()
    while new:
        there |= new
        onward = {on for one in new for _, on in one_step_on(now, goal, one)} - there
        new = {on for on in onward if is_let(task, on, room, bounds)}
    return sorted(there)


def are_good_steps(task, now, goal, told, room, bounds):
    """Whether steps lead from one set to another one by let sets, walked one by one."""
    chosen = now
    if not is_let(task, chosen, room, bounds):
        return False
    for step in told:
        onward = dict(one_step_on(now, goal, chosen))
        if step not in onward or not is_let(task, onward[step], room, bounds):
            return False
        chosen = onward[step]
    return chosen == goal
