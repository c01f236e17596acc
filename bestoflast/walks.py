"""Walks over graphs: what they come to at most, the shortest of the best ones, rings that pay.

Graphs are as in graphs.py. The height of a number is the most that a walk from there comes to, of
no steps, too.
"""


def raised(graph, heights, chosen):
    """The heights by one step more. Keeps in chosen the signs by which some of them grow."""
    higher = []
    for number, steps in enumerate(graph):
        best = heights[number]
        for sign, (pay, behind) in steps.items():
            if pay + heights[behind] > best:
                best = pay + heights[behind]
                chosen[number] = sign
        higher.append(best)
    return higher


def ring_from(graph, chosen, start):
    """The pair of the start and the signs that are chosen until it comes again."""
    signs = [chosen[start]]
    number = graph[start][chosen[start]][1]
    while number != start:
        signs.append(chosen[number])
        number = graph[number][chosen[number]][1]
    return start, tuple(signs)


def ring_along(graph, chosen):
    """A pair of a number and of chosen signs that lead from it to itself, or None."""
    seen = [None] * len(graph)
    for start in range(len(graph)):
        number = start
        while chosen[number] is not None and seen[number] is None:
            seen[number] = start
            number = graph[number][chosen[number]][1]
        if seen[number] == start:
            return ring_from(graph, chosen, number)
    return None


def climb(graph):
    """A pair of layers and a ring, one of them None.

    Layers are the heights by at most 0 steps, by at most 1 step, and so on, up to those that grow
    no more. If they never cease to grow, there is a ring instead: a number, and signs that lead
    from it to itself and pay more than 0 together.
    """
    layers = [[0] * len(graph)]
    chosen = [None] * len(graph)
    while True:
        heights = raised(graph, layers[-1], chosen)
        if heights == layers[-1]:
            return layers, None
        # A height is no more than what its chosen sign pays and the height behind that, and less
        # where the latter grew since: on a ring of chosen signs this is so at least once, so the
        # ring pays more than 0. And a height that grows by step k chose one that grew by step
        # k - 1: there is such a ring at the latest behind as many steps as there are numbers.
        ring = ring_along(graph, chosen)
        if ring is not None:
            return None, ring
        layers.append(heights)


def greatest_of(heights, starts):
    """The greatest of the heights of these numbers."""
    return max([heights[start] for start in starts])


def best_walk(graph, layers, starts):
    """The pair of start and signs of a walk that comes to the most that there is from the starts.

    It is one of the shortest, and the first one of these.
    """
    top = greatest_of(layers[-1], starts)
    fewest = 0
    while greatest_of(layers[fewest], starts) < top:
        fewest += 1
    best_starts = [start for start in starts if layers[fewest][start] == top]
    number = best_starts[0]
    signs = []
    for left in reversed(range(fewest)):
        best = [
            (sign, behind) for sign, (pay, behind) in graph[number].items()
            if pay + layers[left][behind] == layers[left + 1][number]
        ]
        signs.append(best[0][0])
        number = best[0][1]
    return best_starts[0], tuple(signs)


def walked(graph, number, signs):
    """The pair of what the signs pay from a number on, and the number behind them."""
    paid = 0
    for sign in signs:
        pay, number = graph[number][sign]
        paid += pay
    return paid, number


def number_of(graph, signs):
    """The number of a tuple of as many signs as each one here has."""
    # So many signs lead there from anywhere.
    return walked(graph, 0, signs)[1]
