"""Names, and a program read from a text and shown as one."""

from hookmill.errors import BadRow


def is_name(word):
    return 1 <= len(word) <= 8 and are_small_letters(word)


def are_small_letters(word):
    return all(["a" <= sign <= "z" for sign in word])


def are_names(words):
    return all([is_name(word) for word in words])


def read(text):
    rows = {"kind": [], "maker": [], "taker": [], "rule": []}
    for count, line in enumerate(text.split("\n"), start=1):
        if line != "":
            words = line.split(" ")
            row = row_of(words)
            if row is None:
                raise BadRow(count)
            rows[words[0]].append(row)
    return (tuple(rows["kind"]), tuple(rows["maker"]), tuple(rows["taker"]), tuple(rows["rule"]))


def row_of(words):
    rest = tuple(words[1:])
    if words[0] == "rule":
        return rule_row(rest)
    if not are_names(rest):
        return None
    if words[0] == "kind" and len(rest) == 1:
        return rest[0]
    if words[0] == "maker" and 2 <= len(rest) <= 5:
        return (rest[0], rest[1], rest[2:])
    if words[0] == "taker" and 3 <= len(rest) <= 5:
        return (rest[0], rest[1], rest[2], rest[3:])
    return None


def rule_row(rest):
    if "=" not in rest:
        return None
    place = rest.index("=")
    heads = rest[:place]
    words = rest[place + 1:]
    if not (2 <= len(heads) <= 7 and 1 <= len(words) <= 40 and are_names(heads) and are_names(words)):
        return None
    return (heads[0], heads[1], heads[2:], words)


def shown(program):
    rows = [("kind", name) for name in program[0]]
    rows.extend([("maker", name, kind) + parts for name, kind, parts in program[1]])
    rows.extend([("taker", name, kind, taken) + more for name, kind, taken, more in program[2]])
    rows.extend([("rule", taker, maker) + names + ("=",) + words for taker, maker, names, words in program[3]])
    return "\n".join([" ".join(row) for row in rows])
