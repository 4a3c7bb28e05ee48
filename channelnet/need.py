"""What has to be let in so that just so much leaves a reach."""

from channelnet.fraction import lowest
from channelnet.gates import gate_part
from channelnet.state import way_to


def to_take(reach, water):
    """What a reach has to take so that just a water above 0 leaves it; both are two numbers."""
    kept = 100 - reach.loss
    return lowest(water[0] * 100 + reach.soak * kept * water[1], water[1] * kept)


def can_take(reach, water):
    return water[0] <= reach.cap * water[1]


def needed(net, i, tick, water):
    """The least that has to be let in at a tick so that a whole water leaves reach i, as two numbers; or None."""
    if water == 0:
        return [0, 1]
    wanted = [water, 1]
    for k in reversed(way_to(net.reaches, i)):
        reach = net.reaches[k]
        part = gate_part(net.reaches, net.settings, k, tick + reach.above)
        taken = to_take(reach, wanted)
        if part == 0 or not can_take(reach, taken):
            return None
        wanted = lowest(taken[0] * 100, taken[1] * part)
    return wanted
