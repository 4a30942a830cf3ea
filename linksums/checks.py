"""The checks of arguments; each one raises the error that the interface states."""

from linksums.errors import InvalidNumber, InvalidPair, InvalidValues, UnequalPairs, UnknownPlace

MOST_PLACES = 16


def is_whole(thing):
    """Tell whether a thing is a whole number."""
    # Python takes True and False for integers; here they are no numbers.
    return isinstance(thing, int) and not isinstance(thing, bool)


def check_down(down):
    """Check a down table that stands alone."""
    if not _is_row_of_places(down):
        raise InvalidPair("down", None)
    _check_down_links(down)


def check_up(up):
    """Check an up table that stands alone."""
    if not _is_row_of_places(up):
        raise InvalidPair("up", None)
    _check_up_links(up)


def check_pair(pair):
    """Check a pair: its form, then its down links, then its up links."""
    if not _is_two_tables(pair):
        raise InvalidPair(None, None)
    down, up = pair
    _check_down_links(down)
    _check_up_links(up)


def check_equal_pairs(pair, other):
    """Check two pairs that have to be for equally many places."""
    check_pair(pair)
    check_pair(other)
    places, others = len(pair[0]), len(other[0])
    if places != others:
        raise UnequalPairs(places, others)


def check_place(place, places):
    """Check a place of a table or pair for so many places."""
    if not is_whole(place) or not 1 <= place <= places:
        raise UnknownPlace(place)


def check_after(after, places):
    """Check a place of a table or pair for so many places, or 0."""
    if not is_whole(after) or not 0 <= after <= places:
        raise UnknownPlace(after)


def check_values(values, places):
    """Check a list of as many whole numbers as there are places."""
    check_row(values, places)
    for place, value in enumerate(values, 1):
        if not is_whole(value):
            raise InvalidValues(place)


def check_row(row, places):
    """Check a list of as many things of any kind as there are places."""
    if not isinstance(row, list) or len(row) != places:
        raise InvalidValues(None)


def check_amounts(amounts, places):
    """Check a list of as many whole numbers as there are places, none of them below 0."""
    check_row(amounts, places)
    for place, amount in enumerate(amounts, 1):
        if not is_whole(amount) or amount < 0:
            raise InvalidValues(place)


def check_asked(asked):
    """Check the numbers of questions where they themselves tell how many places there are."""
    if not _is_row_of_places(asked):
        raise InvalidValues(None)
    check_amounts(asked, len(asked))


def check_number(number):
    """Check a whole number."""
    if not is_whole(number):
        raise InvalidNumber(number)


def check_number_between(number, least, most):
    """Check a whole number that has to be from the least to the most."""
    if not is_whole(number) or not least <= number <= most:
        raise InvalidNumber(number)


def check_number_of_places(places):
    """Check a number of places."""
    check_number_between(places, 1, MOST_PLACES)


def _is_row_of_places(thing):
    return isinstance(thing, list) and 1 <= len(thing) <= MOST_PLACES


def _is_two_tables(thing):
    if not isinstance(thing, tuple) or len(thing) != 2:
        return False
    down, up = thing
    return _is_row_of_places(down) and _is_row_of_places(up) and len(down) == len(up)


def _check_down_links(down):
    for place, link in enumerate(down, 1):
        if not is_whole(link) or not 0 <= link < place:
            raise InvalidPair("down", place)


def _check_up_links(up):
    end = len(up) + 1
    for place, link in enumerate(up, 1):
        if not is_whole(link) or not place < link <= end:
            raise InvalidPair("up", place)
