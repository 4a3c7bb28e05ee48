"""What has to be let in so that just so much leaves a reach."""

from channelnet.fraction import lowest
from channelnet.gates import gate_part
from channelnet.state import way_to


def needed(net, i, tick, water):
    """The least that has to be let in at a tick so that a whole water leaves reach i, as two numbers; or None."""
    if water == 0:
        return [0, 1]
    top = water
    bottom = 1
    for k in reversed(way_to(net.reaches, i)):
        reach = net.reaches[k]
        part = gate_part(net.reaches, net.settings, k, tick + reach.above)
        kept = 100 - reach.loss
        top = top * 100 + reach.soak * bottom * kept
        bottom = bottom * kept
        if part == 0 or top > reach.cap * bottom:
            return None
        top = top * 100
        bottom = bottom * part
    return lowest(top, bottom)
