"""Tasks, as they are chosen and stepped by, of items that are watched."""

from whatindex.costs import offers, upkeep


def task_of(stores, named, watched):
    """The task of watched items, (table, item, weight), by indexes, (table, index), in their order."""
    items = []
    keeps = [0 for table, index in named]
    for table, item, weight in watched:
        places = [at for at, (name, index) in enumerate(named) if name == table]
        own = [named[at][1] for at in places]
        told = offers(stores[table], own, item)
        items.append((weight, [(touched, tuple([places[at] for at in needs])) for touched, needs in told]))
        pages, keeping = upkeep(stores[table], own, item)
        for at, kept in zip(places, keeping):
            keeps[at] += weight * kept
    return items, keeps, [index.size() for table, index in named]
