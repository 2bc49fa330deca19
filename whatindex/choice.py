"""Choosing: the set of designs that costs least within a room, with a paper that shows it."""

from whatindex.errors import NoProof
from whatindex.values import is_whole

# Stands in a paper where the sets of a road need no parting any more.
CLOSED = -1


def open_offers(offered, chosen):
    """Those of an item's offers whose needs are all chosen."""
    return [(touched, needs) for touched, needs in offered if all([k in chosen for k in needs])]


def least_pages(offered, chosen):
    """The least pages of an item's offers whose needs are all chosen."""
    return min([touched for touched, needs in open_offers(offered, chosen)])


def found_by(items, chosen):
    """The items' weights times their least pages, together."""
    return sum([weight * least_pages(offered, chosen) for weight, offered in items])


def sum_of(numbers, chosen):
    """The numbers of the chosen designs, together."""
    return sum([numbers[k] for k in chosen])


def total(task, chosen):
    """What a set of designs costs in all."""
    items, keeps, sizes = task
    return found_by(items, chosen) + sum_of(keeps, chosen)


def closes(task, room, least, road):
    """Whether no set of a road is within the room and costs less than the least."""
    items, keeps, sizes = task
    taken, left = road
    if sum_of(sizes, taken) > room:
        return True
    free = [k for k in range(len(keeps)) if k not in left]
    return found_by(items, free) + sum_of(keeps, taken) >= least


def parted(road, k):
    """The two roads by which a road goes on: with a design, and without it."""
    taken, left = road
    return (taken + (k,), left), (taken, left + (k,))


def lacking(offered, road, many):
    """Of each of an item's cheapest offers that a road leaves open, the needs that aren't taken yet."""
    taken, left = road
    still = open_offers(offered, [k for k in range(many) if k not in left])
    least = min([touched for touched, needs in still])
    return [[k for k in needs if k not in taken] for touched, needs in still if touched == least]


def next_to_part(task, road):
    """A design by which a road's sets cost unlike; None where those taken cost least of them."""
    items, keeps, sizes = task
    for weight, offered in items:
        needed = lacking(offered, road, len(keeps))
        if [] not in needed:
            return needed[0][0]
    return None


def worthwhile(offered):
    """An item's offers without those that cost no less than one that needs nothing, but for this one."""
    bare = least_pages(offered, ())
    return [offer for offer in offered if offer[0] < bare] + [(bare, ())]


def seek(task, room, best_yet, road):
    """The better one of the best so far, a tuple (least, chosen), and the best set of a road."""
    if closes(task, room, best_yet[0], road):
        return best_yet
    k = next_to_part(task, road)
    if k is None:
        chosen = tuple(sorted(road[0]))
        return total(task, chosen), chosen
    for further in parted(road, k):
        best_yet = seek(task, room, best_yet, further)
    return best_yet


def written(task, room, least, road):
    """The paper that no set of a road is within the room and costs less than the least."""
    if closes(task, room, least, road):
        return [CLOSED]
    k = next_to_part(task, road)
    with_it, without_it = parted(road, k)
    return [k] + written(task, room, least, with_it) + written(task, room, least, without_it)


def best(task, *, room):
    """The set that costs least within a room: (chosen, total, paper)."""
    items, keeps, sizes = task
    slim = [(weight, worthwhile(offered)) for weight, offered in items], keeps, sizes
    # The empty set is within any room, so there is one to begin with.
    least, chosen = seek(slim, room, (total(slim, ()), ()), ((), ()))
    return chosen, least, written(slim, room, least, ((), ()))


def are_designs(task, thing):
    """Whether a thing is a tuple of rising numbers of a task's designs."""
    items, keeps, sizes = task
    if not isinstance(thing, tuple) or not all([is_whole(k) and 0 <= k < len(keeps) for k in thing]):
        return False
    return all([one < other for one, other in zip(thing, thing[1:])])


def is_told_best(task, thing):
    """Whether a thing has the form of what `best` tells."""
    if not isinstance(thing, tuple) or len(thing) != 3:
        return False
    chosen, least, paper = thing
    if not are_designs(task, chosen) or not is_whole(least) or not isinstance(paper, list):
        return False
    return all([is_whole(number) for number in paper])


def closed_roads(task, paper):
    """The roads that a paper closes, in order."""
    items, keeps, sizes = task
    ahead, closed = [((), ())], []
    for number in paper:
        if not ahead:
            raise NoProof("paper")
        road = ahead.pop()
        if number == CLOSED:
            closed.append(road)
            continue
        if not 0 <= number < len(keeps) or number in road[0] + road[1]:
            raise NoProof("paper")
        with_it, without_it = parted(road, number)
        ahead += [without_it, with_it]
    if ahead:
        raise NoProof("paper")
    return closed


def look_best(task, thing, *, room):
    """Refuse what doesn't show that its set costs least within a room."""
    items, keeps, sizes = task
    if not is_told_best(task, thing):
        raise NoProof("form")
    chosen, least, paper = thing
    if sum_of(sizes, chosen) > room:
        raise NoProof("room")
    if total(task, chosen) != least:
        raise NoProof("total")
    if not all([closes(task, room, least, road) for road in closed_roads(task, paper)]):
        raise NoProof("open")
