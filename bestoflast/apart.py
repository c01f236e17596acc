"""Two BIT ROWS that differ at one place, or at two beside one another: what the second pays more.

Where they differ goes on, from one window to the next one behind it, and out of the window at last.
A flip is a number: its ones are the places of a window where both differ. Numbers and pays are as
in graphs.py. A height tells what is paid more at most from a PLACE on, and how many bits it takes:
it is so much times what is paid, less 1 for each bit. So the greatest height is that of the fewest
bits among those that pay most, and 0 if no further bit is to come.
"""

from bestoflast.graphs import BITS, OF_BITS, signs_of

# More than there are bits on the way.
MORE_THAN_BITS = 16


def paid_at(height):
    """What is paid more, by a height."""
    return -(-height // MORE_THAN_BITS)


def more_by(pays, flip):
    """For each window the height that its last bit brings by itself."""
    return [MORE_THAN_BITS * (pays[window ^ flip] - pay) - 1 for window, pay in enumerate(pays)]


def heights_ahead(pays, flip, behind):
    """The heights of the PLACES ahead of a bit with this flip, by those behind it."""
    walks = [more + height for more, height in zip(more_by(pays, flip), behind * OF_BITS)]
    return [max(0, zero, one) for zero, one in zip(walks[0::OF_BITS], walks[1::OF_BITS])]


def layers_of(pays, flips):
    """The heights of the PLACES ahead of the first flip, the second one and so on, and behind all."""
    layers = [[0] * (len(pays) // OF_BITS)]
    for flip in flips[::-1]:
        layers.append(heights_ahead(pays, flip, layers[-1]))
    return layers[::-1]


def further_bits(pays, flips, layers, number):
    """The first one of the tuples of bits by which a PLACE has its height."""
    bits = []
    for flip, heights, behind in zip(flips, layers, layers[1:]):
        if heights[number] == 0:
            break
        window = OF_BITS * number
        if more_by(pays, flip)[window] + behind[window % len(behind)] < heights[number]:
            window += 1
        number = window % len(behind)
        bits.append(window % OF_BITS)
    return tuple(bits)


def best_single(pays, wide):
    """What one bit more pays at most, as it comes or in bits behind it, with two ROWS of this.

    A triple: what is paid, the ROW and the worse one, which have as few bits as can be.
    """
    flips = [1 << step for step in range(1, wide + 1)]
    layers = layers_of(pays, flips)
    many = len(layers[0])
    mores = more_by(pays, 1)
    heights = [mores[window] + layers[0][window % many] for window in range(0, len(pays), OF_BITS)]
    best = max(heights)
    number = heights.index(best)
    place = signs_of(number, BITS, wide)
    further = further_bits(pays, flips, layers, OF_BITS * number % many)
    return paid_at(best), place + (0,) + further, place + (1,) + further


def best_turned(pays, wide):
    """What two bits pay more at most if they are exchanged, one of them 0 and one 1.

    A pair: what is paid, and the first one of the shortest ROWS of this, with WIDTH bits ahead.
    """
    flips = [(3 << step) % len(pays) for step in range(1, wide + 1)]
    layers = layers_of(pays, flips)
    many = len(layers[0])
    firsts = more_by(pays, 1)
    seconds = more_by(pays, 3)
    # By the window of the first one; the bit behind it is the other one.
    others = [OF_BITS * (window % many) + 1 - window % OF_BITS for window in range(len(pays))]
    heights = [
        first + seconds[other] + layers[0][other % many] for first, other in zip(firsts, others)
    ]
    best = max(heights)
    window = heights.index(best)
    ahead = signs_of(window, BITS, wide + 1) + (1 - window % OF_BITS,)
    return paid_at(best), ahead + further_bits(pays, flips, layers, others[window] % many)
