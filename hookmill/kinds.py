"""Kinds: words walked through for a wanted kind, sound programs, and closed terms."""

from hookmill.errors import BadKind, Lacking, NoName, NoTerm, Twice
from hookmill.texts import are_names


def walked(program, words, wanted, known):
    walk_words(heads_of(program), words, wanted, known)


def heads_of(program):
    # For each maker and taker: its kind, and the kinds of what follows its word.
    heads = {}
    for name, kind, parts in program[1]:
        heads[name] = (kind, parts)
    for name, kind, taken, more in program[2]:
        heads[name] = (kind, (taken,) + more)
    return heads


def walk_words(heads, words, wanted, known):
    # The kind that is wanted first stands last.
    waiting = [wanted]
    for word in words:
        if not waiting:
            raise BadKind(word)
        head = head_of(heads, word, known)
        if head[0] != waiting.pop():
            raise BadKind(word)
        waiting.extend(list(reversed(head[1])))
    if waiting:
        raise BadKind("")


def head_of(heads, word, known):
    if word in heads:
        return heads[word]
    if word in known:
        return (known[word], ())
    raise NoName(word)


def sound(program):
    seen = {"copy": True, "drop": True}
    for name in program[0]:
        see(seen, name)
    for name, kind, parts in program[1]:
        see(seen, name)
        check_kinds(program, (kind,) + parts)
    for name, kind, taken, more in program[2]:
        see(seen, name)
        check_kinds(program, (kind, taken) + more)
    check_rules(program, seen)
    check_lacking(program)
    return program


def see(seen, name):
    if name in seen:
        raise Twice(name)
    seen[name] = True


def check_kinds(program, kinds):
    for kind in kinds:
        if kind not in program[0]:
            raise NoName(kind)


def check_rules(program, seen):
    heads = heads_of(program)
    makers = [maker[0] for maker in program[1]]
    takers = [taker[0] for taker in program[2]]
    ahead = {}
    for taker, maker, names, words in program[3]:
        if taker not in takers:
            raise NoName(taker)
        if maker not in makers:
            raise NoName(maker)
        if heads[maker][0] != heads[taker][1][0]:
            raise BadKind(maker)
        if (taker, maker) in ahead:
            raise Twice(taker)
        ahead[(taker, maker)] = True
        walk_words(heads, words, heads[taker][0], known_names(heads, taker, maker, names, seen))


def known_names(heads, taker, maker, names, seen):
    kinds = heads[maker][1] + heads[taker][1][1:]
    if len(names) != len(kinds):
        raise BadKind(taker)
    # The names of a rule are its own: those of another rule are not among what was seen.
    taken = dict(seen)
    for name in names:
        see(taken, name)
    return dict(zip(names, kinds))


def check_lacking(program):
    ruled = [(rule[0], rule[1]) for rule in program[3]]
    for taker, kind, taken, more in program[2]:
        for maker in [name for name, given, parts in program[1] if given == taken]:
            if (taker, maker) not in ruled:
                raise Lacking(taker, maker)


def term(program, text):
    words = tuple(text.split(" "))
    if len(words) > 60 or not are_names(words):
        raise NoTerm("a term is one to sixty names parted by single blanks")
    heads = heads_of(program)
    walk_words(heads, words, head_of(heads, words[0], {})[0], {})
    return words


def kind_of(program, words):
    return heads_of(program)[words[0]][0]
