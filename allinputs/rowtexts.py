"""Texts of rows: records of fields."""

from allinputs.checks import check_list, check_string, is_plain
from allinputs.errors import BadFile, BadValue

MARKS = (",", ";", "|")


def read_rows(text, mark=","):
    """The list of the records of a row text, lists of fields."""
    check_string(text)
    _check_mark(mark)
    rows = []
    row = []
    at = 0
    while at < len(text):
        field, at = _read_field(text, at, mark)
        row.append(field)
        if at == len(text):
            break
        if text[at] == "\n":
            rows.append(row)
            row = []
        elif at == len(text) - 1:
            row.append("")
        at = at + 1
    return rows + [row] if row else rows


def rows_text(rows, mark=","):
    """The row text of a list of lists of strings."""
    check_list(rows)
    for row in rows:
        if not _is_row(row):
            raise BadValue(row)
    _check_mark(mark)
    return "".join([mark.join([_field_text(field, mark) for field in row]) + "\n" for row in rows])


def place_in(text, at):
    """The pair of the line and of the place in it of a place in a text."""
    ahead = text[:at]
    return ahead.count("\n") + 1, at - ahead.rfind("\n") - 1


def has_right_signs(text):
    """Whether a string has nothing but characters from the space to "~" and line feeds."""
    return is_plain(text.replace("\n", ""))


def _check_mark(mark):
    """One of the three marks."""
    if not isinstance(mark, str) or mark not in MARKS:
        raise BadValue(mark)


def _is_row(row):
    """Whether something is a list of at least one string of right characters."""
    if not isinstance(row, (list, tuple)) or len(row) == 0:
        return False
    return all([isinstance(field, str) and has_right_signs(field) for field in row])


def _read_field(text, start, mark):
    """The field that begins at a place, and the place behind it."""
    if text[start] == "\"":
        return _read_quoted(text, start, mark)
    at = start
    while at < len(text) and text[at] not in (mark, "\n"):
        if text[at] == "\"" or not is_plain(text[at]):
            _refuse(text, at)
        at = at + 1
    return text[start:at], at


def _read_quoted(text, start, mark):
    """The field that is written between quotes from a place on, and the place behind it."""
    told = []
    at = start + 1
    while at < len(text) and (text[at] == "\n" or is_plain(text[at])):
        if text[at] == "\"":
            sign = text[at + 1:at + 2]
            if sign in ("", mark, "\n"):
                return "".join(told), at + 1
            at = at + 1
            if sign != "\"":
                break
        told.append(text[at])
        at = at + 1
    _refuse(text, at)
    return "", at


def _refuse(text, at):
    """Tells that a row text cannot go on as a text does."""
    line, place = place_in(text, at)
    raise BadFile(line, place)


def _field_text(field, mark):
    """A field as it is written: plain, if it can be."""
    if "\"" in field or mark in field or "\n" in field:
        return "\"" + field.replace("\"", "\"\"") + "\""
    return field
