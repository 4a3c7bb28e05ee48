"""Answers a list of calls on a new net of channels.

Each call has a function (net, numbers, row) that gives back the numbers of its answer. All of them look at
what they are handed before they change anything, so that a refusal leaves all as it was.
"""

from channelnet.asked import offered_at, offers_for, part_of
from channelnet.gates import gate_part, parts_fit
from channelnet.need import needed
from channelnet.printing import text_of
from channelnet.reading import read_net
from channelnet.state import SOURCE, TICKS, Net, ends_of, if_held, way_to
from channelnet.water import account_of, account_of_all, flow_at, leaving_at, most_leaving, spills_of_all, told

NO_NET = -9
OUT_OF_RANGE = -1
TOO_MUCH_PARTED = -7
CANNOT = -8
TOO_MANY_SETTINGS = -6
MOST_WATER = 1000000
MOST_SETTINGS = 60
MOST_CAP = 100000


def is_reach(net, i):
    return 0 <= i < len(net.reaches)


def is_tick(tick):
    return 0 <= tick < TICKS


def is_water(number):
    return 0 <= number <= MOST_WATER


def are_asks(net, row):
    return len(row) == len(ends_of(net.reaches)) and all([is_water(number) for number in row])


def answer_net(net, numbers, row):
    read = read_net(row)
    reaches = read[0]
    if len(reaches) == 0:
        return [1, read[1]]
    net.renew(reaches)
    return [0, len(reaches), len(ends_of(reaches))]


def answer_let(net, numbers, row):
    tick = numbers[0]
    if not is_tick(tick) or len(row) > TICKS - tick or not all([is_water(water) for water in row]):
        return [OUT_OF_RANGE]
    for k, water in enumerate(row):
        net.waters[tick + k] = water
    return [0]


def answer_gate(net, numbers, row):
    i = numbers[0]
    if not is_reach(net, i) or not is_tick(numbers[1]) or not 0 <= numbers[2] <= 100:
        return [OUT_OF_RANGE]
    settings = net.settings + [(i, numbers[1], numbers[2])]
    if not parts_fit(net.reaches, settings, net.reaches[i].begins):
        return [TOO_MUCH_PARTED]
    if len(settings) > MOST_SETTINGS:
        return [TOO_MANY_SETTINGS]
    net.settings = settings
    return [0]


def answer_flow(net, numbers, row):
    if not is_reach(net, numbers[0]) or not is_tick(numbers[1]):
        return [OUT_OF_RANGE]
    return [0] + told(flow_at(net, numbers[0], numbers[1]))


def answer_comes(net, numbers, row):
    i = numbers[0]
    tick = numbers[1]
    if not is_reach(net, i) or not is_tick(tick) or not 1 <= numbers[2] <= TICKS - tick:
        return [OUT_OF_RANGE]
    return [0] + told([leaving_at(net, i, tick + k) for k in range(numbers[2])])


def answer_account(net, numbers, row):
    if not is_tick(numbers[0]):
        return [OUT_OF_RANGE]
    return [0] + told(account_of(net, numbers[0]))


def answer_accounts(net, numbers, row):
    return [0] + told(account_of_all(net))


def answer_way(net, numbers, row):
    if not is_reach(net, numbers[0]):
        return [OUT_OF_RANGE]
    reach = net.reaches[numbers[0]]
    way = way_to(net.reaches, numbers[0])
    return [0, reach.above + reach.delay, len(way)] + way


def answer_need(net, numbers, row):
    if not is_reach(net, numbers[0]) or not is_tick(numbers[1]) or not is_water(numbers[2]):
        return [OUT_OF_RANGE]
    water = needed(net, numbers[0], numbers[1], numbers[2])
    if water is None:
        return [0, 0]
    return [0, 1] + water


def answer_most(net, numbers, row):
    if not is_reach(net, numbers[0]) or not is_tick(numbers[1]):
        return [OUT_OF_RANGE]
    return [0] + told([most_leaving(net, numbers[0], numbers[1])])


def answer_wants(net, numbers, row):
    if not are_asks(net, row):
        return [OUT_OF_RANGE]
    found = offers_for(net.reaches, row)
    if found[1] is not None:
        return [0, 0, found[1]]
    return [0, 1] + offered_at(net.reaches, found[0], SOURCE)


def answer_set_gates(net, numbers, row):
    if not are_asks(net, row):
        return [OUT_OF_RANGE]
    found = offers_for(net.reaches, row)
    if found[1] is not None:
        return [CANNOT]
    answer = [0]
    for i in range(len(net.reaches)):
        answer.extend(part_of(net.reaches, found[0], i))
    return answer


def answer_part(net, numbers, row):
    if not is_reach(net, numbers[0]) or not is_tick(numbers[1]):
        return [OUT_OF_RANGE]
    return [0, gate_part(net.reaches, net.settings, numbers[0], numbers[1])]


def answer_spills(net, numbers, row):
    return [0] + told(spills_of_all(net))


def answer_ifcap(net, numbers, row):
    if not is_reach(net, numbers[0]) or not 1 <= numbers[1] <= MOST_CAP:
        return [OUT_OF_RANGE]
    return [0] + told(account_of_all(if_held(net, numbers[0], numbers[1])))


def answer_ends(net, numbers, row):
    ends = ends_of(net.reaches)
    return [0, len(ends)] + ends


def answer_print_text(net, numbers, row):
    text = text_of(net.reaches)
    return [0, len(text)] + text


def answer_counts(net, numbers, row):
    return [0, len(net.reaches), len(ends_of(net.reaches)), len(net.settings), sum(net.waters)]


NET = 0
# By the call's number: its function, and how many whole numbers it has; then the calls that have a row behind them.
FUNCTIONS = (
    answer_net, answer_let, answer_gate, answer_flow, answer_comes,
    answer_account, answer_accounts, answer_way, answer_need, answer_most,
    answer_wants, answer_set_gates, answer_part, answer_spills, answer_ifcap,
    answer_ends, answer_print_text, answer_counts,
)
HOW_MANY_NUMBERS = (0, 1, 3, 2, 3, 1, 0, 1, 3, 2, 0, 0, 2, 0, 2, 0, 0, 0)
WITH_ROW = (0, 1, 10, 11)


def answer_call(net, call, numbers, row):
    if call != NET and len(net.reaches) == 0:
        return [NO_NET]
    function = FUNCTIONS[call]
    return function(net, numbers, row)


def answers(calls):
    """For each call, in order, how many numbers are answered, and these."""
    net = Net()
    answered = []
    at = 0
    while at < len(calls):
        call = calls[at]
        behind = at + 1 + HOW_MANY_NUMBERS[call]
        numbers = calls[at + 1:behind]
        row = []
        if call in WITH_ROW:
            row = calls[behind + 1:behind + 1 + calls[behind]]
            behind = behind + 1 + len(row)
        answer = answer_call(net, call, numbers, row)
        answered.append(len(answer))
        answered.extend(answer)
        at = behind
    return answered
