"""Rows and bags of keen rows mixed by their turnings, and had back."""

from pearlhall.errors import NoBag, NoMix, NoRow
from pearlhall.keen import is_keen_row
from pearlhall.rows import MOST_PEARLS, checked, head, turned


def turned_by_each(row):
    return [turned(row, number) for number in range(len(row))]


def last_pearls(rows):
    return "".join([row[-1] for row in rows])


def mixed(row):
    turns = turned_by_each(row)
    # The first one that is the row itself stands behind all that are less.
    place = len([turn for turn in turns if turn < row])
    return (last_pearls(sorted(turns)), place)


def places_one_on(text):
    # Where each of the rows in order stands once it is turned by one. Its first pearl is then its last one, a sign
    # of the text; and rows that begin alike keep their order, as `sorted` keeps that of alike signs.
    return sorted(range(len(text)), key=lambda place: text[place])


def places_round(one_on, start):
    places = [one_on[start]]
    while places[-1] != start:
        places.append(one_on[places[-1]])
    return places


def signs_at(text, places):
    return "".join([text[place] for place in places])


def may_be_told(text, place):
    try:
        checked(text)
    except NoRow:
        return False
    return isinstance(place, int) and not isinstance(place, bool) and 0 <= place < len(text)


def unmixed(text, place):
    if not may_be_told(text, place):
        raise NoMix("a mix is told as a row and a place in it")
    places = places_round(places_one_on(text), place)
    # A row that is its root some times is come round to as often.
    row = signs_at(text, places) * (len(text) // len(places))
    # Only if the two are told of a row are they told of this one.
    if mixed(row) != (text, place):
        raise NoMix("the text and the place are told of no row")
    return row


def count_pearls(bag):
    return sum([len(row) for row in bag])


def is_bag(thing):
    if not isinstance(thing, list) or not all([is_keen_row(row) for row in thing]):
        return False
    if any([one > other for one, other in zip(thing, thing[1:])]):
        return False
    return 1 <= count_pearls(thing) <= MOST_PEARLS


def mixed_bag(bag):
    if not is_bag(bag):
        raise NoBag("a bag is a list of keen rows, rising, of 1 to 24 pearls together")
    turns = []
    for row in bag:
        turns.extend(turned_by_each(row))
    # Two rows that are alike, endless, for as many pearls as both have together never differ: so many pearls as
    # the whole bag has tell any two apart.
    enough = count_pearls(bag)
    return last_pearls(sorted(turns, key=lambda turn: (turn * enough)[:enough]))


def unmixed_bag(text):
    one_on = places_one_on(checked(text))
    bag = []
    met = {}
    for start in range(len(text)):
        if start not in met:
            places = places_round(one_on, start)
            for place in places:
                met[place] = True
            bag.append(head(signs_at(text, places)))
    return sorted(bag)
