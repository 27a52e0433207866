"""The plain run: a closed term's value, and how many calls, copies and drops it took.

A value is kept as a tuple (maker, values of the parts, number of words): so a taker takes it apart in one step.
"""

from hookmill.errors import Spent
from hookmill.kinds import heads_of


def split(program, words):
    heads = heads_of(program)
    found = []
    begin = 1
    while begin < len(words):
        behind = end_of_term(heads, words, begin)
        found.append(words[begin:behind])
        begin = behind
    return found


def end_of_term(heads, words, begin):
    place = begin
    wanted = 1
    while wanted > 0:
        wanted = wanted - 1 + len(heads[words[place]][1])
        place = place + 1
    return place


def worth(program, words, most=400):
    plain = PlainRun(program, most)
    value = plain.value_of(words)
    return (words_of(value), plain.calls, plain.copies, plain.drops)


def words_of(value):
    found = []
    waiting = [value]
    while waiting:
        node = waiting.pop()
        found.append(node[0])
        waiting.extend(list(reversed(node[1])))
    return tuple(found)


# Words that are gone through from the last to the first, with values for the names among them.
class Frame:
    def __init__(self, words, known):
        self.words = words
        self.left = len(words)
        self.known = known


class PlainRun:
    def __init__(self, program, most):
        self.heads = heads_of(program)
        self.makers = dict([(maker[0], True) for maker in program[1]])
        self.rules = dict([((rule[0], rule[1]), rule) for rule in program[3]])
        self.most = most
        self.calls = 0
        self.copies = 0
        self.drops = 0

    # Calls lie in frames, not in calls of this method: a run may go deeper than Python lets calls go.
    def value_of(self, words):
        frames = [Frame(words, {})]
        values = []
        while frames:
            frame = frames[-1]
            if frame.left == 0:
                frames.pop()
            else:
                frame.left = frame.left - 1
                self.take_word(frames, values, frame.words[frame.left])
        return values[0]

    def take_word(self, frames, values, word):
        known = frames[-1].known
        if word in known:
            values.append(known[word])
        else:
            # What follows the word was gone through ahead of it: its first part lies on top.
            parts = [values.pop() for kind in self.heads[word][1]]
            if word in self.makers:
                values.append((word, tuple(parts), 1 + sum([part[2] for part in parts])))
            else:
                frames.append(self.called(word, parts))

    def called(self, taker, parts):
        taken = parts[0]
        rule = self.rules[(taker, taken[0])]
        known = dict(zip(rule[2], list(taken[1]) + parts[1:]))
        self.calls = self.calls + 1
        for name, value in known.items():
            self.count_uses(rule[3].count(name), value[2])
        if self.calls + self.copies + self.drops > self.most:
            raise Spent("calls, copies and drops are more than the bound allows")
        return Frame(rule[3], known)

    def count_uses(self, uses, size):
        if uses == 0:
            self.drops = self.drops + size
        else:
            self.copies = self.copies + (uses - 1) * size
