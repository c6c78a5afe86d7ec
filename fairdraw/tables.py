"""Tables of shares: joined, names pushed out of them, and what they tell [17] [18] [19] [22]."""

from fairdraw.errors import CannotBe, TooMany
from fairdraw.fractions import over, plus, times, total


def chosen(values, places):
    """The values at these places, in the order of the places."""
    return tuple([values[place] for place in places])


def places_of(names, some):
    """Where each one of some stands among names."""
    return [names.index(name) for name in some]


def gathered(rows, places):
    """Rows of the values at these places alone, sorted; those that are alike then are one, with their total share."""
    shares = {}
    for values, share in rows:
        rest = chosen(values, places)
        shares[rest] = plus(shares[rest], share) if rest in shares else share
    return sorted(shares.items())


def rows_by(rows, places):
    """A dict of lists of rows, by their values at these places."""
    by_values = {}
    for row in rows:
        by_values.setdefault(chosen(row[0], places), []).append(row)
    return by_values


def joined(one, other, most=500):
    """The table of two, of at most so many rows."""
    names = tuple(sorted(set(one[0] + other[0])))
    common = [name for name in one[0] if name in other[0]]
    own_places = places_of(one[0], common)
    places = places_of(one[0] + other[0], names)
    matching = rows_by(other[1], places_of(other[0], common))
    rows = []
    for values, share in one[1]:
        for others, other_share in matching.get(chosen(values, own_places), []):
            # no two pairs have the same values, so each pair is a row, and too many are not built at all
            if len(rows) == most:
                raise TooMany(most)
            rows.append((chosen(values + others, places), times(share, other_share)))
    return (names, sorted(rows))


def pushed(table, name):
    """The table without that name; one that has it not is told with all of its names and rows."""
    rest = tuple([other for other in table[0] if other != name])
    return (rest, gathered(table[1], places_of(table[0], rest)))


def told(table, names):
    """The told shares of these names, in their order."""
    if len(table[1]) == 0:
        raise CannotBe()
    # the sums are exact, so all other names go at once
    rows = gathered(table[1], places_of(table[0], names))
    together = total([share for values, share in rows])
    return [(values, over(share, together)) for values, share in rows]
