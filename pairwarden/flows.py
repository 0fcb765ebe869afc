"""Spreading counted items over places with room."""


def greatest_amounts(counts, links, rooms):
    """Return how much of each item each place gets, such that the sum is greatest.

    Each item has a count and a list of the places that it may have, its links. Each place has a room.
    The result has a dict for each item: from places to amounts of at least 1.
    """
    amounts = [{} for _ in counts]
    path = _find_path(counts, links, rooms, amounts)
    while path is not None:
        amounts = _take_path(counts, rooms, amounts, path)
        path = _find_path(counts, links, rooms, amounts)
    return amounts


def reach(counts, links, amounts):
    """Return which places could take what is left over, and which items would make way for it.

    The first dict gives for each place that is reached the item that takes it. The second one gives for
    each item that is reached the place that it leaves, or None if something of the item is left over.
    """
    takers = {}
    leaves = {item: None for item in range(len(counts)) if _rest(counts, amounts, item) > 0}
    waiting = list(leaves)
    at = 0
    while at < len(waiting):
        item = waiting[at]
        for place in links[item]:
            if place not in takers:
                takers[place] = item
                coming = [other for other, row in enumerate(amounts) if place in row and other not in leaves]
                leaves.update({other: place for other in coming})
                waiting.extend(coming)
        at += 1
    return takers, leaves


def _rest(counts, amounts, item):
    """Return how much of the item is left over."""
    return counts[item] - sum(amounts[item].values())


def _free(rooms, amounts, place):
    """Return how much room the place still has."""
    return rooms[place] - sum([row.get(place, 0) for row in amounts])


def _find_path(counts, links, rooms, amounts):
    """Return steps `(item, place)` by which more is spread, or None if nothing more can be.

    Each item but the first one leaves the place of the step before. There is no path with fewer steps:
    with longer ones, great counts could need very many paths.
    """
    takers, leaves = reach(counts, links, amounts)
    for place in takers:
        if _free(rooms, amounts, place) > 0:
            return _path_to(takers, leaves, place)
    return None


def _path_to(takers, leaves, place):
    """Return the path whose last step takes the place."""
    path = []
    while place is not None:
        item = takers[place]
        path.append((item, place))
        place = leaves[item]
    return path[::-1]


def _take_path(counts, rooms, amounts, path):
    """Return the amounts after as much as possible is moved along the path."""
    # Each item but the first one, with the place that it leaves.
    moves = [(step[0], before[1]) for before, step in zip(path, path[1:])]
    more = min(_rest(counts, amounts, path[0][0]), _free(rooms, amounts, path[-1][1]))
    more = min([more] + [amounts[item][left] for item, left in moves])
    after = [_positive(row) for row in amounts]
    for item, place in path:
        after[item][place] = after[item].get(place, 0) + more
    for item, left in moves:
        after[item][left] -= more
    return [_positive(row) for row in after]


def _positive(row):
    """Return a copy of the amounts of one item without those that are 0."""
    return {place: row[place] for place in row if row[place] > 0}
