"""What all lists of pages have in common."""


def begun(count, size):
    """How many pages of `size` are begun by `count` things."""
    return (count + size - 1) // size


def first_with_room(pages, most):
    """The place of the first page with fewer than `most` things; behind all, where there is none."""
    for at, page in enumerate(pages):
        if len(page) < most:
            return at
    return len(pages)


def page_with(pages, thing):
    """The place of the page that has a thing, which one of them has."""
    return [thing in page for page in pages].index(True)


def copied(pages):
    """The same pages as new lists, which are the asker's own."""
    return [list(page) for page in pages]
