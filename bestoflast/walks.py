"""Walks over PLACES or COUPLES: what they come to at most, the best ones, rings that pay.

Numbers, pays and bases are as in graphs.py. The height of a number is the most that a walk from
there comes to, of no steps, too.
"""


def raised(pays, heights, base):
    """The heights by one step more."""
    higher = heights
    walks = [pay + behind for pay, behind in zip(pays, heights * base)]
    for sign in range(base):
        higher = [one if one > two else two for one, two in zip(higher, walks[sign::base])]
    return higher


def trail(pays, layers, start, base):
    """A walk of one step for each layer but the first, to the height of its start in the last one.

    The first one of these: a pair of the numbers that it comes by, the start the first of them,
    and of the signs. Each number on it has to be higher in its layer than in the one below.
    """
    number = start
    numbers = [number]
    signs = []
    for level in reversed(range(1, len(layers))):
        lower = layers[level - 1]
        window = base * number
        while pays[window] + lower[window % len(lower)] != layers[level][number]:
            window += 1
        number = window % len(lower)
        numbers.append(number)
        signs.append(window % base)
    return numbers, signs


def ring_on(numbers, signs):
    """The first part of a trail that leads from a number to itself: a pair of both, or None."""
    seen = {}
    for at, number in enumerate(numbers):
        if number in seen:
            return number, tuple(signs[seen[number]:at])
        seen[number] = at
    return None


def ring_of_one(pays, base):
    """The first ring of one sign that pays more than 0: a number and the signs, or None."""
    # The number of a tuple of one and the same sign is so many times that of the sign 1.
    ones = (len(pays) - 1) // (base - 1)
    for sign in range(base):
        if pays[sign * ones] > 0:
            return sign * ones // base, (sign,)
    return None


def steepest(layers):
    """The first one of the numbers that grew most from the last layer but one to the last one."""
    grown = [height - lower for height, lower in zip(layers[-1], layers[-2])]
    return grown.index(max(grown))


def climb(pays, base):
    """A pair of layers and a ring, one of them None.

    Layers are the heights by at most 0 steps, by at most 1 step, and so on, up to those that grow
    no more. If they never cease to grow, there is a ring instead: a number, and signs that lead
    from it to itself and pay more than 0 together, no number coming twice on the way.
    """
    # Most bills without a bound have such a ring, which is found at once.
    ring = ring_of_one(pays, base)
    if ring is not None:
        return None, ring
    layers = [[0] * (len(pays) // base)]
    look = 1
    while True:
        heights = raised(pays, layers[-1], base)
        if heights == layers[-1]:
            return layers, None
        layers.append(heights)
        if len(layers) > look:
            # What grew by step k leads to what grew by step k - 1, and so on down. If a number
            # comes twice on this way, it grew in between: the ring pays more than 0. It does so at
            # the latest behind as many steps as there are numbers. To look for it at each step
            # would take longer than the steps.
            numbers, signs = trail(pays, layers, steepest(layers), base)
            ring = ring_on(numbers, signs)
            if ring is not None:
                return None, ring
            look += 1 + look // 4


def greatest_of(heights, starts):
    """The greatest of the heights of these numbers."""
    return max([heights[start] for start in starts])


def best_walk(pays, layers, starts, base):
    """The pair of start and signs of a walk that comes to the most that there is from the starts.

    It is one of the shortest, and the first one of these.
    """
    top = greatest_of(layers[-1], starts)
    fewest = 0
    while greatest_of(layers[fewest], starts) < top:
        fewest += 1
    best_starts = [start for start in starts if layers[fewest][start] == top]
    _, signs = trail(pays, layers[:fewest + 1], best_starts[0], base)
    return best_starts[0], tuple(signs)
