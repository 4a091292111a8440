"""The texts of schemes, stands, addresses and papers, and what is told by such texts."""

from grownlines.base.words import MAX_FIGURES, is_count, is_letter, is_point
from grownlines.errors import InvalidOperation, InvalidPaper, InvalidStand, ParseError
from grownlines.lines.grown import check_scheme
from grownlines.lines.schemes import Scheme

# Addresses are told of orders up to 20000.
MAX_ADDRESS = 20001

# The directions of the triangle grid: texts have no grid of their own.
_TURNS = 6


def write_scheme(scheme):
    """The text of a scheme: its lines."""
    check_scheme(scheme)
    return "\n".join(scheme.lines)


def read_scheme(text):
    """The scheme with a text."""
    if not isinstance(text, str):
        raise ParseError(None)
    lines = text.split("\n")
    return Scheme.from_lines(*lines)


def integer_in(text):
    """The integer with a text, None if there is none."""
    digits = text.removeprefix("-")
    if not digits.isascii() or not digits.isdigit() or len(digits) > MAX_FIGURES:
        return None
    number = int(text)
    # Leading zeros and the sign of 0 are not written.
    return number if str(number) == text else None


def count_in(text):
    """The integer of at least 0 with a text, None if there is none."""
    number = integer_in(text)
    return None if number is None or number < 0 else number


def _is_turn(value):
    return is_count(value) and value < _TURNS


def _is_kind(value):
    """Whether the value has the form of a kind, of any letters."""
    if not isinstance(value, tuple) or len(value) != 3 or not _is_turn(value[2]):
        return False
    before, after, turn = value
    if before == "" or after == "":
        return turn == 0 and (is_letter(before) or is_letter(after))
    return is_letter(before) and is_letter(after)


def _is_stand(value):
    """Whether the value has the form of a stand of the triangle grid, of any letters."""
    if not isinstance(value, tuple) or len(value) != 4 or not _is_turn(value[2]) or not is_point(value[3]):
        return False
    return _is_kind(value[0]) and _is_kind(value[1])


def _is_address(value):
    return isinstance(value, tuple) and 1 <= len(value) <= MAX_ADDRESS and all([is_count(number) for number in value])


def _kind_text(kind):
    before, after, turn = kind
    return f"{before or '-'}.{after or '-'}.{turn}"


def _kind_in(text):
    """The kind with a text, None if there is none."""
    words = text.split(".")
    if len(words) != 3:
        return None
    # A letter that is missing has no text but its sign.
    before, after = [None if word == "" else word.replace("-", "") for word in words[:2]]
    kind = (before, after, integer_in(words[2]))
    return kind if _is_kind(kind) and _kind_text(kind) == text else None


def _stand_text(stand):
    kind, other, turn, (x, y) = stand
    return f"{_kind_text(kind)} {_kind_text(other)} {turn} {x},{y}"


def _point_in(text):
    """The point with a text, None if there is none."""
    words = text.split(",")
    point = tuple([integer_in(word) for word in words])
    return point if is_point(point) else None


def _stand_in(text):
    """The stand with a text, None if there is none."""
    words = text.split(" ")
    if len(words) != 4:
        return None
    stand = (_kind_in(words[0]), _kind_in(words[1]), integer_in(words[2]), _point_in(words[3]))
    return stand if _is_stand(stand) else None


def _address_text(address):
    return "/".join([str(number) for number in address])


def _address_in(text):
    """The address with a text, None if there is none."""
    address = tuple([count_in(word) for word in text.split("/")])
    return address if _is_address(address) else None


def write_stand(stand):
    """The text of a stand."""
    if not _is_stand(stand):
        raise InvalidStand("a stand is two kinds, a turn and a vector")
    return _stand_text(stand)


def read_stand(text):
    """The stand with a text."""
    stand = _stand_in(text) if isinstance(text, str) else None
    if stand is None:
        raise ParseError(None)
    return stand


def write_address(address):
    """The text of an address."""
    if not _is_address(address):
        raise InvalidOperation("an address is a tuple of integers of at least 0")
    return _address_text(address)


def read_address(text):
    """The address with a text."""
    address = _address_in(text) if isinstance(text, str) else None
    if address is None:
        raise ParseError(None)
    return address


def _ascend(value, is_one):
    """Whether the value is an ascending tuple of what is told by a function."""
    if not isinstance(value, tuple) or not all([is_one(own) for own in value]):
        return False
    return all([one < other for one, other in zip(value, value[1:])])


def _are_addresses(one, other):
    return _is_address(one) and _is_address(other) and len(one) == len(other) and one < other


def _is_paper(value):
    """Whether the value has the form of a paper."""
    if not isinstance(value, tuple) or len(value) != 3:
        return False
    if value[0] == "clear":
        return _ascend(value[1], _is_kind) and _ascend(value[2], _is_stand)
    return value[0] == "meets" and _are_addresses(value[1], value[2])


def write_paper(paper):
    """The text of a paper."""
    if not _is_paper(paper):
        raise InvalidPaper("a paper is clear, kinds and stands, or meets and two addresses")
    if paper[0] == "meets":
        return f"meets {_address_text(paper[1])} {_address_text(paper[2])}"
    kinds = [f"kind {_kind_text(kind)}" for kind in paper[1]]
    stands = [_stand_text(stand) for stand in paper[2]]
    return "\n".join(["clear"] + kinds + stands)


def read_paper(text):
    """The paper with a text."""
    if not isinstance(text, str):
        raise ParseError(None)
    lines = text.split("\n")
    if lines[0] == "clear":
        return _clear_paper_in(lines)
    words = lines[0].split(" ")
    pair = tuple([_address_in(word) for word in words[1:]])
    if words[0] != "meets" or len(pair) != 2 or not _are_addresses(pair[0], pair[1]):
        raise ParseError(0)
    if len(lines) > 1:
        raise ParseError(1)
    return ("meets", *pair)


def _clear_paper_in(lines):
    kinds = []
    stands = []
    for number, line in enumerate(lines[1:], start=1):
        word, _, rest = line.partition(" ")
        if word == "kind" and len(stands) == 0:
            own = _kind_in(rest)
            known = kinds
        else:
            own = _stand_in(line)
            known = stands
        if own is None or len(known) > 0 and own <= known[-1]:
            raise ParseError(number)
        known.append(own)
    return ("clear", tuple(kinds), tuple(stands))
