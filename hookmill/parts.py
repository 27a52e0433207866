"""The parts of a net: the pieces that hang together by ties."""


def parts(net):
    beside = neighbours(net)
    seen = {}
    found = []
    # The pieces rise, so each part is come upon by its least number: the parts rise by their first numbers.
    for number, name in net[0]:
        if number not in seen:
            part = hanging_together(beside, number)
            for member in part:
                seen[member] = True
            found.append(part)
    return found


def neighbours(net):
    beside = {}
    for number, name in net[0]:
        beside[number] = []
    for one, other in net[1]:
        # The lesser end stands first: where it is no rim end, neither is the other.
        if one[0] != 0:
            beside[one[0]].append(other[0])
            beside[other[0]].append(one[0])
    return beside


def hanging_together(beside, start):
    reached = {start: True}
    waiting = [start]
    while waiting:
        current = waiting.pop()
        for number in beside[current]:
            if number not in reached:
                reached[number] = True
                waiting.append(number)
    return sorted(reached)
