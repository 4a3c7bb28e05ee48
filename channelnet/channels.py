"""Answers a list of calls on a new net of channels.

Each call has a function (net, numbers, row) that gives back the numbers of its answer. All of them look at
what they are handed before they change anything, so that a refusal leaves all as it was.
"""

from channelnet.gates import parts_fit
from channelnet.need import needed
from channelnet.reading import read_net
from channelnet.state import TICKS, Net, ends_of, way_to
from channelnet.water import account_of, account_of_all, flow_at, leaving_at, told

NO_NET = -9
OUT_OF_RANGE = -1
TOO_MUCH_PARTED = -7
TOO_MANY_SETTINGS = -6
MOST_WATER = 1000000
MOST_SETTINGS = 60


def is_reach(net, i):
    return 0 <= i < len(net.reaches)


def is_tick(tick):
    return 0 <= tick < TICKS


def is_water(number):
    return 0 <= number <= MOST_WATER


def answer_net(net, numbers, row):
    read = read_net(row)
    reaches = read[0]
    if len(reaches) == 0:
        return [1, read[1]]
    net.renew(reaches)
    return [0, len(reaches), len(ends_of(reaches))]


def answer_let(net, numbers, row):
    tick = numbers[0]
    if not is_tick(tick) or len(row) > TICKS - tick or not all([is_water(water) for water in row]):
        return [OUT_OF_RANGE]
    for k, water in enumerate(row):
        net.waters[tick + k] = water
    return [0]


def answer_gate(net, numbers, row):
    i = numbers[0]
    if not is_reach(net, i) or not is_tick(numbers[1]) or not 0 <= numbers[2] <= 100:
        return [OUT_OF_RANGE]
    settings = net.settings + [(i, numbers[1], numbers[2])]
    if not parts_fit(net.reaches, settings, net.reaches[i].begins):
        return [TOO_MUCH_PARTED]
    if len(settings) > MOST_SETTINGS:
        return [TOO_MANY_SETTINGS]
    net.settings = settings
    return [0]


def answer_flow(net, numbers, row):
    if not is_reach(net, numbers[0]) or not is_tick(numbers[1]):
        return [OUT_OF_RANGE]
    return [0] + told(flow_at(net, numbers[0], numbers[1]))


def answer_comes(net, numbers, row):
    i = numbers[0]
    tick = numbers[1]
    if not is_reach(net, i) or not is_tick(tick) or not 1 <= numbers[2] <= TICKS - tick:
        return [OUT_OF_RANGE]
    return [0] + told([leaving_at(net, i, tick + k) for k in range(numbers[2])])


def answer_account(net, numbers, row):
    if not is_tick(numbers[0]):
        return [OUT_OF_RANGE]
    return [0] + told(account_of(net, numbers[0]))


def answer_accounts(net, numbers, row):
    return [0] + told(account_of_all(net))


def answer_way(net, numbers, row):
    if not is_reach(net, numbers[0]):
        return [OUT_OF_RANGE]
    reach = net.reaches[numbers[0]]
    way = way_to(net.reaches, numbers[0])
    return [0, reach.above + reach.delay, len(way)] + way


def answer_need(net, numbers, row):
    if not is_reach(net, numbers[0]) or not is_tick(numbers[1]) or not is_water(numbers[2]):
        return [OUT_OF_RANGE]
    water = needed(net, numbers[0], numbers[1], numbers[2])
    if water is None:
        return [0, 0]
    return [0, 1] + water


NET = 0
# By the call's number: its function, how many whole numbers it has, whether a row stands behind them.
FUNCTIONS = (
    answer_net, answer_let, answer_gate, answer_flow, answer_comes,
    answer_account, answer_accounts, answer_way, answer_need,
)
HOW_MANY_NUMBERS = (0, 1, 3, 2, 3, 1, 0, 1, 3)
HAS_ROW = (True, True, False, False, False, False, False, False, False)


def answer_call(net, call, numbers, row):
    if call != NET and len(net.reaches) == 0:
        return [NO_NET]
    function = FUNCTIONS[call]
    return function(net, numbers, row)


def answers(calls):
    """For each call, in order, how many numbers are answered, and these."""
    net = Net()
    answered = []
    at = 0
    while at < len(calls):
        call = calls[at]
        behind = at + 1 + HOW_MANY_NUMBERS[call]
        numbers = calls[at + 1:behind]
        row = []
        if HAS_ROW[call]:
            row = calls[behind + 1:behind + 1 + calls[behind]]
            behind = behind + 1 + len(row)
        answer = answer_call(net, call, numbers, row)
        answered.append(len(answer))
        answered.extend(answer)
        at = behind
    return answered
