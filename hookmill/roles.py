"""Roles: by which hooks a piece of a program's stock gives and by which it takes, and the kinds of what goes there."""

from hookmill.errors import NoName


def role_of(program, name):
    for maker, kind, parts in program[1]:
        if maker == name:
            return MakerRole(kind, parts)
    for taker, kind, taken, more in program[2]:
        if taker == name:
            return TakerRole(kind, taken, more)
    if name == "copy":
        return CopyRole()
    if name == "drop":
        return DropRole()
    raise NoName(name)


class Role:
    # Lists of tuples (hook, kind), rising.
    def __init__(self, giving, taking):
        self.giving = giving
        self.taking = taking

    def gives(self):
        return [hook for hook, kind in self.giving]

    def takes(self):
        return [hook for hook, kind in self.taking]

    def kind_at(self, hook):
        return dict(self.giving + self.taking)[hook]


class MakerRole(Role):
    def __init__(self, kind, parts):
        Role.__init__(self, [(0, kind)], list(enumerate(parts, start=1)))


class TakerRole(Role):
    def __init__(self, kind, taken, more):
        Role.__init__(self, [(1, kind)], [(0, taken)] + list(enumerate(more, start=2)))


class CopyRole(Role):
    def __init__(self):
        Role.__init__(self, [(1, None), (2, None)], [(0, None)])


class DropRole(Role):
    def __init__(self):
        Role.__init__(self, [], [(0, None)])
