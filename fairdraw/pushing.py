"""Names pushed out of a list of tables, and the best order for it [20] [21]."""

from fairdraw.tables import joined, pushed


def all_joined(tables, most):
    """One table or more joined from the left."""
    so_far = tables[0]
    for table in tables[1:]:
        so_far = joined(so_far, table, most)
    return so_far


def all_pushed(tables, order, most=500):
    """The table that is left of a list of tables behind the names of an order."""
    left = list(tables)
    for name in order:
        having = [table for table in left if name in table[0]]
        if len(having) > 0:
            left = [table for table in left if name not in table[0]]
            left.append(pushed(all_joined(having, most), name))
    if len(left) == 0:
        return ((), [((), (1, 1))])
    last = all_joined(left, most)
    # where no join was made, this is a table that was handed in
    return (last[0], list(last[1]))


def neighbours(scopes):
    """A dict that has for each name those that stand in scopes with it, itself too, as a dict of True."""
    near = {}
    for scope in scopes:
        for name in scope:
            near.setdefault(name, {}).update([(other, True) for other in scope])
    return near


def fewest(near, names):
    """The name that has the fewest neighbours, of several the least."""
    return min([(len(near[name]), name) for name in names])[1]


def make_one(near, name):
    """Makes the scopes that have a name one without it: all of its neighbours become neighbours of one another."""
    together = near.pop(name)
    together.pop(name)
    for other in together:
        near[other].update(together)
        near[other].pop(name)


def best_order(scopes, keep):
    """The names to push out of tables of these scopes, in the best order."""
    near = neighbours(scopes)
    left = [name for name in near if name not in keep]
    order = []
    while len(left) > 0:
        name = fewest(near, left)
        make_one(near, name)
        left.remove(name)
        order.append(name)
    return order
