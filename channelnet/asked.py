"""What each reach is to be offered for what the ends ask, with gates as best can be. Waters are two numbers each."""

from channelnet.fraction import lowest, total
from channelnet.need import can_take, to_take
from channelnet.state import SOURCE, beginning_at, ends_of


def from_below(reaches):
    """All reaches: those that begin at one place by their numbers, ahead of each all that is below it."""
    downward = []
    waiting = beginning_at(reaches, SOURCE)
    while len(waiting) > 0:
        i = waiting.pop()
        downward.append(i)
        waiting.extend(beginning_at(reaches, i))
    # Each came ahead of all below it, and the greatest number first: the other way round is the order asked for.
    return list(reversed(downward))


def offered_at(reaches, offers, place):
    """The sum of what all that begin at a place are to be offered."""
    return total([offers[k] for k in beginning_at(reaches, place)])


def offers_for(reaches, asks):
    """What each reach is to be offered, and None; or nothing, and the first reach that can't."""
    by_end = {}
    for i, water in zip(ends_of(reaches), asks):
        by_end[i] = [water, 1]
    offers = [[0, 1] for reach in reaches]
    for i in from_below(reaches):
        leaving = by_end[i] if i in by_end else offered_at(reaches, offers, i)
        if leaving[0] > 0:
            offers[i] = to_take(reaches[i], leaving)
        if not can_take(reaches[i], offers[i]):
            return ([], i)
    return (offers, None)


def part_of(reaches, offers, i):
    """The part of reach i's gate, so that it is offered just what it is to be."""
    whole = offered_at(reaches, offers, reaches[i].begins)
    if whole[0] == 0:
        return [0, 1]
    return lowest(offers[i][0] * whole[1], offers[i][1] * whole[0])
