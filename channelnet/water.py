"""What becomes of the water that is let in.

What is let in at one tick comes to each reach at one tick and along one way, so waters that were let in
at different ticks never meet, and each can be followed by itself.
"""

from channelnet.fraction import lowest
from channelnet.gates import gate_part
from channelnet.state import SOURCE, ends_of, way_to

# Water is counted in drops. A reach divides by 100 at most twice (its gate and its loss), and a way has at most
# 8 reaches: with 100 to the power of 16 drops to the unit every water is a whole number of them.
DROPS = 100000000000000000000000000000000


def pass_through(net, i, tick, water):
    """(offered, taken, leaving) of reach i, where water that was let in at a tick is parted, in drops."""
    reach = net.reaches[i]
    offered = water * gate_part(net.reaches, net.settings, i, tick + reach.above) // 100
    taken = min(offered, reach.cap * DROPS)
    left = taken - min(taken, reach.soak * DROPS)
    return (offered, taken, left * (100 - reach.loss) // 100)


def passes(net, tick):
    """The same for each reach, of what is let in at a tick."""
    rows = []
    for i, reach in enumerate(net.reaches):
        water = net.waters[tick] * DROPS
        if reach.begins != SOURCE:
            water = rows[reach.begins][2]
        rows.append(pass_through(net, i, tick, water))
    return rows


def pass_of(net, i, tick):
    """The same for reach i alone; nothing was let in ahead of tick 0."""
    if tick < 0:
        return (0, 0, 0)
    return passes(net, tick)[i]


def leaving_at(net, i, tick):
    """What leaves reach i at a tick, in drops."""
    reach = net.reaches[i]
    return pass_of(net, i, tick - reach.above - reach.delay)[2]


def flow_at(net, i, tick):
    """What reach i is offered, takes and spills at a tick, and what leaves it then, in drops."""
    row = pass_of(net, i, tick - net.reaches[i].above)
    return [row[0], row[1], row[0] - row[1], leaving_at(net, i, tick)]


def account_of(net, tick):
    """How much arrives, is lost, is spilled and runs off of what is let in at a tick, in drops."""
    ends = ends_of(net.reaches)
    arrived = 0
    lost = 0
    spilled = 0
    parted = net.waters[tick] * DROPS
    for i, row in enumerate(passes(net, tick)):
        spilled = spilled + row[0] - row[1]
        lost = lost + row[1] - row[2]
        parted = parted - row[0]
        if i in ends:
            arrived = arrived + row[2]
        else:
            parted = parted + row[2]
    # What came to be parted at some beginning and was offered to no reach there has run off.
    return [arrived, lost, spilled, parted]


def account_of_all(net):
    """The same of all that is let in."""
    totals = [0, 0, 0, 0]
    for tick in range(len(net.waters)):
        totals = [total + more for total, more in zip(totals, account_of(net, tick))]
    return totals


def spills_of_all(net):
    """What each reach spills of all that is let in, in drops."""
    spilled = [0] * len(net.reaches)
    for tick in range(len(net.waters)):
        spilled = [before + row[0] - row[1] for before, row in zip(spilled, passes(net, tick))]
    return spilled


def most_leaving(net, i, tick):
    """The most that can leave reach i of what is let in at a tick, in drops."""
    way = way_to(net.reaches, i)
    # A gate that is not at 0 lets through at least 1 of a hundred, so with this much the first reach is full,
    # and more than that would leave no more of it.
    water = net.reaches[way[0]].cap * 100 * DROPS
    for k in way:
        water = pass_through(net, k, tick, water)[2]
    return water


def told(waters):
    """Waters in drops as they are answered, two numbers each."""
    numbers = []
    for water in waters:
        numbers.extend(lowest(water, DROPS))
    return numbers
