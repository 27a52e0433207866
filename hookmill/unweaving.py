"""Unweaving: the term of makers alone whose woven net a net is alike with."""

from hookmill.errors import BadKind, NoValue
from hookmill.kinds import heads_of, walk_words
from hookmill.nets import mates_of, rim


def unwoven(program, net):
    if rim(net) != 1 or net[2] != 0:
        raise NoValue("a value's net has the one rim end 0 and no rings")
    words = words_along(program, net)
    # Each piece is come to by its chief hook alone, so at most once.
    if len(words) != len(net[0]):
        raise NoValue("there are pieces that do not hang on the rim by their chief hooks")
    try:
        heads = heads_of(program)
        walk_words(heads, words, heads[words[0]][0], {})
    except BadKind:
        raise NoValue("a maker has a part of another kind than it takes") from None
    return words


def words_along(program, net):
    sides = dict([(name, len(parts)) for name, kind, parts in program[1]])
    names = dict(net[0])
    mates = mates_of(net)
    found = []
    # The places whose terms are still to come, the next one last.
    waiting = [(0, 0)]
    while waiting:
        end = mates[waiting.pop()]
        name = names.get(end[0])
        if name not in sides or end[1] != 0:
            raise NoValue("something else than a maker's chief hook gives a part")
        found.append(name)
        waiting.extend([(end[0], hook) for hook in range(sides[name], 0, -1)])
    return tuple(found)
