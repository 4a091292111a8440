"""A shell: commands in words over a bench, with answers in words."""

from grownlines.base.words import is_letter
from grownlines.decide.counts import count_meetings
from grownlines.decide.papers import paper
from grownlines.errors import (InvalidNumber, InvalidOperation, InvalidScheme, NothingToUndo, ParseError, Refused,
                               TooMany, UnknownLetter)
from grownlines.lines.grown import length_of
from grownlines.lines.places import point_at
from grownlines.lines.schemes import Scheme
from grownlines.text.pictures import picture
from grownlines.text.texts import count_in, read_scheme, write_paper
from grownlines.use.bench import Bench
from grownlines.visits.meetings import FAULTS

# What is answered to what is no command.
_WHAT = "what"


def _several(texts, sign):
    return sign.join(texts) if len(texts) > 0 else "nothing"


def _news_text(news):
    return _several([f"{fault} {'clear' if is_clear else 'met'}" for fault, is_clear in news], ", ")


def _scheme_of(text):
    """The scheme of which these are the lines, with commas between them."""
    lines = text.split(", ")
    return Scheme.from_lines(*lines)


def _pledge_text(pledge):
    if pledge[0] == "draws":
        return f"draws {', '.join(pledge[1].lines)}"
    return " ".join([str(part) for part in pledge])


def _pledge_of(text):
    """The pledge with a text, None if there is none."""
    word, blank, rest = text.partition(" ")
    if word == "draws" and blank == " ":
        return ("draws", _scheme_of(rest))
    words = rest.split(" ")
    if words[0] not in FAULTS:
        return None
    if word == "clear" and len(words) == 1:
        return ("clear", rest)
    if word == "late" and len(words) == 2 and count_in(words[1]) is not None:
        return ("late", words[0], count_in(words[1]))
    return None


def _demand(bench, text):
    pledge = _pledge_of(text)
    return None if pledge is None else _news_text(bench.demand(pledge))


def _waive(bench, text):
    pledge = _pledge_of(text)
    return None if pledge is None else _news_text(bench.waive(pledge))


def _draw(bench, text):
    return _news_text(bench.draw(text))


def _erase(bench, text):
    return _news_text(bench.erase(text)) if is_letter(text) else None


def _undo(bench):
    return _news_text(bench.undo())


def _redo(bench):
    return _news_text(bench.redo())


def _lines(bench):
    return _several(bench.scheme.lines, "; ")


def _pledges(bench):
    return _several([_pledge_text(pledge) for pledge in bench.pledges], "; ")


def _clear(bench, fault):
    return "yes" if bench.first_order(fault) is None else "no"


def _first(bench, fault):
    order = bench.first_order(fault)
    return "none" if order is None else str(order)


def _paper(bench, fault):
    return "clear" if bench.first_order(fault) is None else write_paper(paper(bench.scheme, fault))


def _repairs(bench, fault):
    return _several(bench.repairs(fault), "; ")


def _length(bench, order):
    return str(length_of(bench.scheme, order))


def _at(bench, order, number):
    x, y = point_at(bench.scheme, order, number)
    return f"{x},{y}"


def _count(bench, fault, order):
    return str(count_meetings(bench.scheme, order, fault))


def _picture(bench, order):
    return "; ".join(picture(bench.scheme, order).split("\n"))


# By their words: commands with any text, and those with just these parts.
_WITH_TEXT = {"draw": _draw, "erase": _erase, "demand": _demand, "waive": _waive}
_WITH_PARTS = {
    "undo": _undo, "redo": _redo, "lines": _lines, "pledges": _pledges, "clear": _clear, "first": _first,
    "paper": _paper, "repairs": _repairs, "length": _length, "at": _at, "count": _count, "picture": _picture}
_PARTS = {
    "undo": (), "redo": (), "lines": (), "pledges": (), "clear": ("fault",), "first": ("fault",), "paper": ("fault",),
    "repairs": ("fault",), "length": ("count",), "at": ("count", "count"), "count": ("fault", "count"),
    "picture": ("count",)}


def _part_of(form, word):
    """The fault or the integer with this word, None if there is none."""
    if form == "count":
        return count_in(word)
    return word if word in FAULTS else None


def _carried_out(bench, line):
    """The answer to a command, None if there is no such command."""
    word, blank, text = line.partition(" ")
    if word in _WITH_TEXT and blank == " ":
        action = _WITH_TEXT[word]
        return action(bench, text)
    words = line.split(" ")[1:]
    if word not in _PARTS or len(words) != len(_PARTS[word]):
        return None
    parts = [_part_of(form, own) for form, own in zip(_PARTS[word], words)]
    if None in parts:
        return None
    action = _WITH_PARTS[word]
    return action(bench, *parts)


class Shell:
    """A bench that is worked on by commands."""

    def __init__(self, text):
        self._bench = Bench(read_scheme(text))
        self._many = 0

    def answer(self, line):
        """The answer to a command."""
        if not isinstance(line, str):
            return _WHAT
        try:
            told = _carried_out(self._bench, line)
        except ParseError:
            return "line"
        except InvalidScheme:
            return "scheme"
        except InvalidOperation:
            return "operation"
        except UnknownLetter:
            return "letter"
        except InvalidNumber:
            return "number"
        except TooMany as excess:
            return f"many {excess.limit}"
        except NothingToUndo:
            return "undo"
        except Refused as refusal:
            return f"refused {_pledge_text(refusal.pledge)}"
        if told is None:
            return _WHAT
        self._many = self._many + 1
        return told

    def __call__(self, line):
        return self.answer(line)

    def bench(self):
        """An independent copy of the bench."""
        return self._bench.twin()

    def __len__(self):
        return len(range(self._many))
