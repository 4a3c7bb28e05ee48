"""What part of a hundred each gate takes at each tick."""

from channelnet.state import TICKS, beginning_at


def gate_part(reaches, settings, i, tick):
    """The part of reach i's gate at a tick, with these settings in the order in which they were told."""
    part = reaches[i].gate
    latest = 0
    for setting in settings:
        if setting[0] == i and latest <= setting[1] <= tick:
            latest = setting[1]
            part = setting[2]
    return part


def parts_fit(reaches, settings, place):
    """Whether the parts at a place are never more than 100 together."""
    beside = beginning_at(reaches, place)
    # Nothing is set from a tick behind the last one that can be told, so behind it all stays as it is there.
    for tick in range(TICKS):
        if sum([gate_part(reaches, settings, k, tick) for k in beside]) > 100:
            return False
    return True
