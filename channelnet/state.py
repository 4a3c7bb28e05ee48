"""What a net is made of, and what is kept of it from call to call."""

SOURCE = -1
TICKS = 60


class Reach:
    """One channel as its line tells it, and where on its way it lies.

    above: the ticks from the source to its beginning; depth: how many reaches its way has.
    """

    def __init__(self, name, begins, above, depth, numbers):
        self.name = name
        self.begins = begins
        self.above = above
        self.depth = depth
        self.delay = numbers[0]
        self.loss = numbers[1]
        self.soak = numbers[2]
        self.cap = numbers[3]
        self.gate = numbers[4]


class Net:
    """The reaches, what is let in by the tick, and the settings (reach, tick, part) as they were told.

    Without reaches there is no net yet.
    """

    def __init__(self):
        self.reaches = []
        self.waters = []
        self.settings = []

    def renew(self, reaches):
        self.reaches = reaches
        self.waters = [0] * TICKS
        self.settings = []


def with_cap(reach, cap):
    """A reach like this one that holds cap."""
    numbers = [reach.delay, reach.loss, reach.soak, cap, reach.gate]
    return Reach(reach.name, reach.begins, reach.above, reach.depth, numbers)


def if_held(net, i, cap):
    """A net like this one whose reach i holds cap; this one stays as it is."""
    other = Net()
    other.reaches = [with_cap(reach, cap) if k == i else reach for k, reach in enumerate(net.reaches)]
    other.waters = list(net.waters)
    other.settings = list(net.settings)
    return other


def way_to(reaches, i):
    """The reaches from the source down to reach i, that one too."""
    upward = []
    at = i
    while at != SOURCE:
        upward.append(at)
        at = reaches[at].begins
    return list(reversed(upward))


def beginning_at(reaches, place):
    """The reaches that begin at one place: at the source, or at a reach's end."""
    return [k for k in range(len(reaches)) if reaches[k].begins == place]


def ends_of(reaches):
    """The reaches at whose end none begins."""
    return [k for k in range(len(reaches)) if len(beginning_at(reaches, k)) == 0]
