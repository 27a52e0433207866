"""Runs: meetings one after another, by an order or in rounds, and what is told of them."""

from hookmill.meeting import Bench
from hookmill.nets import live


def open_pairs(book, net):
    names = dict(net[0])
    return [pair for pair in live(net) if has_rule(book, names, pair)]


def stuck_pairs(book, net):
    names = dict(net[0])
    return [pair for pair in live(net) if not has_rule(book, names, pair)]


def has_rule(book, names, pair):
    return book.rule_for(names[pair[0]], names[pair[1]]) is not None


def run(book, net, order=None, most=400):
    bench = Bench(book, net)
    ready = bench.open_now()
    log = []
    while ready and len(log) < most:
        pair = ready.pop(number_from(order, len(log)) % len(ready))
        bench.meet(pair[0], pair[1])
        for fresh in bench.fresh:
            put_in_order(ready, fresh)
        log.append(pair)
    return (not ready, bench.net_now(), log)


def number_from(order, done):
    if not order:
        return 0
    return order[done % len(order)]


def put_in_order(ready, pair):
    low = 0
    high = len(ready)
    while low < high:
        middle = (low + high) // 2
        if ready[middle] < pair:
            low = middle + 1
        else:
            high = middle
    ready.insert(low, pair)


def rounds(book, net, most=400):
    bench = Bench(book, net)
    ready = bench.open_now()
    done = 0
    found = []
    while ready and done + len(ready) <= most:
        found.append(ready)
        done = done + len(ready)
        ready = one_round(bench, ready)
    return (not ready, bench.net_now(), found)


def one_round(bench, ready):
    behind = []
    for pair in ready:
        bench.meet(pair[0], pair[1])
        behind.extend(bench.fresh)
    return sorted(behind)


def replayed(book, net, log):
    return bench_behind(book, net, log).net_now()


def tally(book, net, log):
    counts = {}
    for deed in bench_behind(book, net, log).done:
        names = (min(deed.names), max(deed.names))
        counts[names] = counts.get(names, 0) + 1
    return [(names[0], names[1], counts[names]) for names in sorted(counts)]


def bench_behind(book, net, log):
    bench = Bench(book, net)
    for a, b in log:
        bench.meet(a, b)
    return bench
