"""A renaming of places that leads turns onto turns, in their order, and ties onto ties.

All pairs of places have colours. At first two pairs have the same colour if the same turns lead
their one place to their other one, and so on. Then the colours are told apart ever more: a pair is
known by the colours of the two pairs that each third place makes with it (Weisfeiler, Leman).
The colours of two boards are told apart together, so that alike pairs of both always have the
same colour. Where places still have one colour, one of them is marked, and each of the other
board's is tried as its goal.
"""

# Greater than all colours: the first ones are sums of up to 13 weights, the later ones numbers of
# pairs of places.
BASE = 10000


def _first_colours(size, turns, ties):
    """The table of the colours of all pairs of places."""
    colours = [[0] * size for _ in range(size)]
    weight = 1
    for turn in [tuple(range(size)), *turns]:
        for place, goal in enumerate(turn):
            colours[place][goal] = colours[place][goal] + weight
            # From the colour of a pair that of the pair the other way round has to be known.
            colours[goal][place] = colours[goal][place] + 2 * weight
        weight = weight * 4
    for place, goal in ties:
        colours[place][goal] = colours[place][goal] + weight
        colours[goal][place] = colours[goal][place] + weight
    return colours


def _listed(colours):
    """The list of the colours of all pairs, ascending."""
    return sorted([colour for row in colours for colour in row])


def _count_unlike(colours):
    return len({colour for row in colours for colour in row})


def _signs(colours):
    """For each pair what it is known by."""
    columns = [list(column) for column in zip(*colours)]
    table = []
    for row in colours:
        signs = []
        for at, colour in enumerate(row):
            thirds = sorted([one * BASE + other for one, other in zip(row, columns[at])])
            signs.append((colour, *thirds))
        table.append(signs)
    return table


def _numbered(signs, numbers):
    """The table with numbers instead of what pairs are known by; `numbers` learns what is new."""
    table = []
    for row in signs:
        for sign in row:
            numbers.setdefault(sign, len(numbers))
        table.append([numbers[sign] for sign in row])
    return table


def _told_apart(one, other):
    """Both tables when nothing more is told apart, None if some colour is not as often in both."""
    many = 0
    while _listed(one) == _listed(other):
        if _count_unlike(one) == many:
            return one, other
        many = _count_unlike(one)
        numbers = {}
        one, other = _numbered(_signs(one), numbers), _numbered(_signs(other), numbers)
    return None


def _places_like(colours, colour):
    """The list of the places with this colour."""
    return [place for place, row in enumerate(colours) if row[place] == colour]


def _part(colours, start, places):
    """Those of the places that hang on the first one, step by step.

    Two places do not hang on one another if all pairs of places with their colours have one
    colour: then what is chosen for the one is nothing to the other.
    """
    listed = _listed(colours)
    part = [start]
    at = 0
    while at < len(part):
        here = part[at]
        many = len(_places_like(colours, colours[here][here]))
        for place in places:
            pairs = many * len(_places_like(colours, colours[place][place]))
            if place not in part and listed.count(colours[here][place]) != pairs:
                part.append(place)
        at = at + 1
    return part


def _marked(colours, place):
    """The table in which this place has a colour of its own."""
    table = [list(row) for row in colours]
    table[place][place] = _count_unlike(colours)
    return table


def _with_all_unlike(one, other, places):
    """Both tables when each of these places of the one has a colour of its own, None if it cannot be.

    Places that do not hang on one another are not tried anew for one another's sake.
    """
    left = [place for place in places if len(_places_like(one, one[place][place])) > 1]
    while len(left) > 0:
        part = _part(one, left[0], left)
        both = _with_unlike_part(one, other, part)
        if both is None:
            return None
        one, other = both
        left = [place for place in left if place not in part]
    return one, other


def _with_unlike_part(one, other, part):
    """The same for places that hang on one another."""
    for goal in _places_like(other, one[part[0]][part[0]]):
        both = _told_apart(_marked(one, part[0]), _marked(other, goal))
        if both is not None:
            both = _with_all_unlike(both[0], both[1], part)
        if both is not None:
            return both
    return None


def turn_onto(size, turns, ties, other_turns, other_ties):
    """Any turn that renames the turns to the others, one by one, and the ties, None if there is none."""
    both = _told_apart(_first_colours(size, turns, ties), _first_colours(size, other_turns, other_ties))
    if both is not None:
        both = _with_all_unlike(both[0], both[1], list(range(size)))
    if both is None:
        return None
    goals = {row[place]: place for place, row in enumerate(both[1])}
    return tuple([goals[row[place]] for place, row in enumerate(both[0])])
