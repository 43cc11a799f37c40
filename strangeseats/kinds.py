"""What anything is: numbers, NAMEs and words, looked at without trusting what was handed in."""


def is_whole(thing):
    """Whether this is a whole number; a truth is none."""
    return isinstance(thing, int) and not isinstance(thing, bool)


def is_count(thing):
    """Whether this is a whole number from 0 on."""
    return is_whole(thing) and thing >= 0


def is_below(thing, many):
    """Whether this is one of the whole numbers from 0 on that are less than many."""
    return is_count(thing) and thing < many


def is_row(thing, many):
    """Whether this is a tuple of that many parts."""
    return isinstance(thing, tuple) and len(thing) == many


def is_name(thing):
    """Whether this is a NAME: 1 to 8 letters a to z, and not join."""
    if not isinstance(thing, str) or not 1 <= len(thing) <= 8 or thing == "join":
        return False
    return all("a" <= sign <= "z" for sign in thing)


def is_words(thing):
    """Whether this is a rising tuple of one to three NAMEs."""
    if not isinstance(thing, tuple) or not 1 <= len(thing) <= 3:
        return False
    return all(is_name(word) for word in thing) and list(thing) == sorted(set(thing))


def is_exactly(thing, due):
    """Whether anything is this due thing of tuples and numbers, no truth in the place of a number."""
    if isinstance(due, tuple):
        return is_row(thing, len(due)) and all(is_exactly(part, told) for part, told in zip(thing, due))
    return is_whole(thing) and thing == due
