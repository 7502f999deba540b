"""The commands of a shell. Each one takes a bench and the text behind its first word and returns its answer, or None if
the text makes it no command."""

from linkbooks.base.lines import text_of
from linkbooks.base.rows import read_row, write_row
from linkbooks.book.books import DEEDS
from linkbooks.count.rows import count_right
from linkbooks.decide.links import least_keys_for, links_bound
from linkbooks.decide.papers import is_good, paper
from linkbooks.decide.plans import Plan, parting_rows
from linkbooks.decide.tables import Table
from linkbooks.decide.uses import lacking, unmet
from linkbooks.deeds.rows import new_row
from linkbooks.errors import InvalidPlan, ParseError
from linkbooks.text.texts import count_in, read_deed, write_deed, write_paper

_NONE = "nothing"


def _yes_or_no(value):
    """The text of True or False."""
    return "yes" if value else "no"


def _number_text(value):
    """The text of a number, or of None."""
    return str(value) if value is not None else "none"


def _joined(texts):
    """Several texts in one line."""
    return "; ".join(texts) if texts else _NONE


def _news_text(news):
    """The text of the news of a change."""
    told = [f"{kind} good" if now else f"{kind} bad" for kind, now in news]
    return ", ".join(told) if told else _NONE


def _read(text, reading):
    """What a text tells, as it is read; None if it tells nothing."""
    try:
        return reading(text)
    except ParseError:
        return None


def _plan_in(text):
    """The plan with a text, None if there is none."""
    try:
        return Plan(text)
    except InvalidPlan:
        return None


def _plans_in(text):
    """The two plans with these texts, None if they are none."""
    plans = [_plan_in(word) for word in text.split(" ")]
    return plans if len(plans) == 2 and None not in plans else None


def _deed_and_row_in(text):
    """The pair of a deed and of a row that are told like `put in a 0 a`, None if there are none."""
    before, _, behind = text.partition(" in ")
    deed, row = _read(before, read_deed), _read(behind, read_row)
    return (deed, row) if deed is not None and row is not None else None


def _kind_and_count_in(text):
    """The pair of a kind of deeds and of an integer of at least 0, None if there are none."""
    kind, _, word = text.partition(" ")
    many = count_in(word)
    return (kind, many) if kind in DEEDS and many is not None else None


def _pledge_in(text):
    """The pledge that a text tells, None if it tells none."""
    word, _, rest = text.partition(" ")
    if word == "good":
        return ("good", rest) if rest in DEEDS else None
    if word == "links":
        told = _kind_and_count_in(rest)
        return ("links", *told) if told is not None else None
    if word == "alike":
        plans = _plans_in(rest)
        return ("alike", plans[0].text, plans[1].text) if plans is not None else None
    told = _deed_and_row_in(rest) if word == "done" else None
    return ("done", told[1], told[0]) if told is not None else None


def pledge_text(pledge):
    """The text of a pledge."""
    if pledge[0] == "done":
        return f"done {write_deed(pledge[2])} in {write_row(pledge[1])}"
    return " ".join([str(word) for word in pledge])


def _draw(bench, text):
    """The answer to `draw LINE`."""
    return _news_text(bench.draw(text))


def _erase(bench, text):
    """The answer to `erase LINE`."""
    return _news_text(bench.erase(text))


def _demand(bench, text):
    """The answer to `demand PLEDGE`."""
    pledge = _pledge_in(text)
    return _news_text(bench.demand(pledge)) if pledge is not None else None


def _waive(bench, text):
    """The answer to `waive PLEDGE`."""
    pledge = _pledge_in(text)
    return _news_text(bench.waive(pledge)) if pledge is not None else None


def _good(bench, text):
    """The answer to `good KIND`."""
    return _yes_or_no(is_good(bench.book, text)) if text in DEEDS else None


def _table(bench, text):
    """The answer to `table KIND`."""
    return str(Table(bench.book, text)) if text in DEEDS else None


def _paper(bench, text):
    """The answer to `paper KIND`."""
    if text not in DEEDS:
        return None
    told = paper(bench.book, text)
    return "good" if told[0] == "good" else _joined(write_paper(told).split("\n"))


def _most(bench, text):
    """The answer to `most KIND`."""
    return _number_text(links_bound(bench.book, text)) if text in DEEDS else None


def _links(bench, text):
    """The answer to `links KIND n`."""
    told = _kind_and_count_in(text)
    return _number_text(least_keys_for(bench.book, told[0], told[1])) if told is not None else None


def _lack(bench, text):
    """The answer to `lack KIND`."""
    if text not in DEEDS:
        return None
    return _joined([f"{note} {text_of(pool)}" for note, pool in lacking(bench.book, text)])


def _alike(bench, text):
    """The answer to `alike PLAN PLAN`."""
    plans = _plans_in(text)
    if plans is None:
        return None
    rows = parting_rows(bench.book, plans[0], plans[1])
    if rows is None:
        return "yes"
    return _joined([f"{letter} {write_row(rows[letter])}" for letter in rows])


def _count(bench, text):
    """The answer to `count n`."""
    keys = count_in(text)
    return str(count_right(bench.book, keys)) if keys is not None else None


def _right(bench, text):
    """The answer to `right ROW`."""
    row = _read(text, read_row)
    return _yes_or_no(bench.book.is_right(row)) if row is not None else None


def _do(bench, text):
    """The answer to `do DEED in ROW`."""
    told = _deed_and_row_in(text)
    return write_row(new_row(bench.book, told[1], told[0])) if told is not None else None


def _undo(bench):
    """The answer to `undo`."""
    return _news_text(bench.undo())


def _redo(bench):
    """The answer to `redo`."""
    return _news_text(bench.redo())


def _lines(bench):
    """The answer to `lines`."""
    return _joined(bench.book.lines)


def _pledges(bench):
    """The answer to `pledges`."""
    return _joined([pledge_text(pledge) for pledge in bench.pledges])


def _unmet(bench):
    """The answer to `unmet`."""
    return _joined(unmet(bench.book))


_ALONE = {"undo": _undo, "redo": _redo, "lines": _lines, "pledges": _pledges, "unmet": _unmet}
_WITH_TEXT = {
    "draw": _draw, "erase": _erase, "demand": _demand, "waive": _waive, "good": _good, "table": _table, "paper": _paper,
    "most": _most, "links": _links, "lack": _lack, "alike": _alike, "count": _count, "right": _right, "do": _do,
}


def answer_to(bench, line):
    """The answer to a command, None if the value is none."""
    if not isinstance(line, str):
        return None
    word, blank, rest = line.partition(" ")
    if blank == "" and word in _ALONE:
        alone = _ALONE[word]
        return alone(bench)
    if blank != "" and word in _WITH_TEXT:
        action = _WITH_TEXT[word]
        return action(bench, rest)
    return None
