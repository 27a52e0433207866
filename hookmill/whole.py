"""The whole: a program's text and a term's text, ground by meetings or reckoned by the plain run."""

from hookmill.errors import Spent
from hookmill.kinds import sound, term
from hookmill.plain import worth
from hookmill.runs import rounds, run, tally
from hookmill.texts import read
from hookmill.unweaving import unwoven
from hookmill.weaving import book_of, woven


def ground(text, term_text, order=None, most=400):
    setting = set_up(text, term_text)
    found = run(setting[1], setting[2], order, most)
    return told_of(setting, found[0], found[1], found[2])


def ground_in_rounds(text, term_text, most=400):
    setting = set_up(text, term_text)
    found = rounds(setting[1], setting[2], most)
    log = []
    for pairs in found[2]:
        log.extend(pairs)
    return told_of(setting, found[0], found[1], log) + (len(found[2]),)


def reckoned(text, term_text, most=400):
    program = sound(read(text))
    found = worth(program, term(program, term_text), most)
    return (" ".join(found[0]), found[1], found[2], found[3])


def set_up(text, term_text):
    program = sound(read(text))
    net = woven(program, term(program, term_text))
    return (program, book_of(program), net)


def told_of(setting, at_an_end, behind, log):
    if not at_an_end:
        raise Spent("the run is not at its end within the bound")
    value = " ".join(unwoven(setting[0], behind))
    rows = tally(setting[1], setting[2], log)
    copies = sum([count for one, other, count in rows if "copy" in (one, other)])
    drops = sum([count for one, other, count in rows if "drop" in (one, other)])
    # Each meeting that is neither a copy's nor a drop's is a taker's.
    return (value, len(log) - copies - drops, copies, drops)
