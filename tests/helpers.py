"""How the tests write calls and read answers."""

from channelnet.channels import answers

REFUSED = [-1]
NO_NET = [-9]


def row(numbers):
    return [len(numbers)] + list(numbers)


def net(text):
    return [0] + row(text.encode("latin-1"))


def let(t, waters):
    return [1, t] + row(waters)


def gate(i, t, part):
    return [2, i, t, part]


def flow(i, t):
    return [3, i, t]


def comes(i, t, n):
    return [4, i, t, n]


def account(t):
    return [5, t]


def accounts():
    return [6]


def way(i):
    return [7, i]


def need(i, t, x):
    return [8, i, t, x]


def most(i, t):
    return [9, i, t]


def wants(asks):
    return [10] + row(asks)


def set_gates(asks):
    return [11] + row(asks)


def part(i, t):
    return [12, i, t]


def spills():
    return [13]


def ifcap(i, c):
    return [14, i, c]


def ends():
    return [15]


def print_text():
    return [16]


def counts():
    return [17]


def line(name, where="source", delay=0, loss=0, soak=0, cap=100000, gate=100):
    return f"reach {name} from {where} delay {delay} loss {loss} soak {soak} cap {cap} gate {gate}\n"


def split(numbers):
    """What answers() gives back, an answer each."""
    parts = []
    at = 0
    while at < len(numbers):
        size = numbers[at]
        parts.append(numbers[at + 1:at + 1 + size])
        at += 1 + size
    assert at == len(numbers)
    return parts


def run(*calls):
    """The answers to calls on one new object."""
    flat = []
    for call in calls:
        flat.extend(call)
    parts = split(answers(flat))
    assert len(parts) == len(calls)
    return parts


def said(text):
    """What print answers for a net of that very text."""
    return [0, len(text)] + list(text.encode("ascii"))


def last(*calls):
    """The answer to the last of the calls."""
    return run(*calls)[-1]


def sight(reaches):
    """Calls that show what the net is, what is let in and how the gates are set, without changing it."""
    calls = [accounts(), counts(), ends(), print_text()]
    for i in range(reaches):
        calls.append(way(i))
        calls.append(need(i, 0, 7))
        calls.append(need(i, 59, 7))
        calls.append(comes(i, 0, 60))
    return calls
