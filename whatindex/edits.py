"""Edits of a store's rows, of which its indexes are told."""

from whatindex.conditions import by_column, meeting


def put_row(store, indexes, row):
    """Put a row: the pages that the store touches, and a list of those of each index."""
    number, touched = store.lay(row)
    return touched, [index.put(number, row) for index in indexes]


def drop_row(store, indexes, number):
    """Drop a row: the pages that the store touches, and a list of those of each index."""
    row = store.row(number)
    return store.drop(number), [index.drop(number, row) for index in indexes]


def change_row(store, indexes, number, column, value):
    """Change a row: the pages that the store touches, and a list of those of each index."""
    row = store.row(number)
    return store.change(number, column, value), [index.change(number, row, column, value) for index in indexes]


def edit(store, indexes, item):
    """Do what an item says: a list of what is told of each row that it comes to, rising by numbers."""
    word = item[0]
    if word == "ask":
        return []
    if word == "put":
        return [put_row(store, indexes, item[1])]
    numbers = meeting(store, by_column(item[1]))
    if word == "drop":
        return [drop_row(store, indexes, number) for number in numbers]
    return [change_row(store, indexes, number, item[2], item[3]) for number in numbers]
