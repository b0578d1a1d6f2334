"""The functions of formulas: their names, and what stands at the places of their arguments."""

from allinputs.checks import check_range, check_string, is_integer
from allinputs.errors import BadValue, Unknown

# For each function the letters of the places that it always has, of those that may be left out, of those that are
# repeated, at least once, and of a last one that may stand behind these. Of the letters g and h are wide, a and b
# free, and all others single: x and y are numbers, i, j and k wholes, d days, s, t and u texts, p truths, v and w
# any values.
_PLACES = {
    "ABS": ("x", "", "", ""), "AND": ("", "", "g", ""), "AVERAGE": ("", "", "g", ""),
    "AVERAGEIF": ("gv", "h", "", ""), "CHOOSE": ("i", "", "a", ""), "COLUMN": ("", "g", "", ""),
    "COLUMNS": ("g", "", "", ""), "COUNT": ("", "", "g", ""), "COUNTA": ("", "", "g", ""),
    "COUNTBLANK": ("g", "", "", ""), "COUNTIF": ("gv", "", "", ""), "COUNTIFS": ("", "", "gv", ""),
    "DATE": ("ijk", "", "", ""), "DAY": ("d", "", "", ""), "EDATE": ("dk", "", "", ""), "EOMONTH": ("dk", "", "", ""),
    "EXACT": ("st", "", "", ""), "FILTER": ("gh", "a", "", ""), "FIND": ("st", "i", "", ""),
    "HLOOKUP": ("vgi", "p", "", ""), "IF": ("pa", "b", "", ""), "IFERROR": ("va", "", "", ""),
    "IFNA": ("va", "", "", ""), "IFS": ("", "", "pa", ""), "INDEX": ("gi", "j", "", ""), "INT": ("x", "", "", ""),
    "ISBLANK": ("v", "", "", ""), "ISERROR": ("v", "", "", ""), "ISLOGICAL": ("v", "", "", ""),
    "ISNA": ("v", "", "", ""), "ISNUMBER": ("v", "", "", ""), "ISTEXT": ("v", "", "", ""),
    "LARGE": ("gk", "", "", ""), "LEFT": ("t", "k", "", ""), "LEN": ("t", "", "", ""), "LOOKUP": ("vg", "h", "", ""),
    "LOWER": ("t", "", "", ""), "MATCH": ("vg", "x", "", ""), "MAX": ("", "", "g", ""), "MAXIFS": ("h", "", "gv", ""),
    "MEDIAN": ("", "", "g", ""), "MID": ("tik", "", "", ""), "MIN": ("", "", "g", ""), "MINIFS": ("h", "", "gv", ""),
    "MMULT": ("gh", "", "", ""), "MOD": ("xy", "", "", ""), "MONTH": ("d", "", "", ""), "NA": ("", "", "", ""),
    "NOT": ("p", "", "", ""), "OR": ("", "", "g", ""), "POWER": ("xy", "", "", ""), "PRODUCT": ("", "", "g", ""),
    "QUOTIENT": ("xy", "", "", ""), "RANK": ("xg", "p", "", ""), "REPLACE": ("tiku", "", "", ""),
    "REPT": ("tk", "", "", ""), "RIGHT": ("t", "k", "", ""), "ROUND": ("x", "i", "", ""),
    "ROUNDDOWN": ("x", "i", "", ""), "ROUNDUP": ("x", "i", "", ""), "ROW": ("", "g", "", ""), "ROWS": ("g", "", "", ""),
    "SEQUENCE": ("i", "jxy", "", ""), "SIGN": ("x", "", "", ""), "SMALL": ("gk", "", "", ""),
    "SORT": ("g", "ixp", "", ""), "SUBSTITUTE": ("tsu", "k", "", ""), "SUM": ("", "", "g", ""),
    "SUMIF": ("gv", "h", "", ""), "SUMIFS": ("h", "", "gv", ""), "SUMPRODUCT": ("", "", "g", ""),
    "SWITCH": ("v", "", "wa", "b"), "TEXT": ("vt", "", "", ""), "TEXTJOIN": ("sp", "", "g", ""),
    "TRANSPOSE": ("g", "", "", ""), "TRIM": ("t", "", "", ""), "UNIQUE": ("g", "p", "", ""), "UPPER": ("t", "", "", ""),
    "VALUE": ("x", "", "", ""), "VLOOKUP": ("vgi", "p", "", ""), "WEEKDAY": ("d", "i", "", ""),
    "XLOOKUP": ("vgh", "ai", "", ""), "XOR": ("", "", "g", ""), "YEAR": ("d", "", "", ""),
}


def function_names():
    """The tuple of the names of all functions, ascending."""
    return tuple(sorted(list(_PLACES)))


def takes(name):
    """The pair of the least and the greatest number of arguments; None for the greatest if there is none."""
    check_function(name)
    always, optional, group, _ = _PLACES[name]
    least = len(always) + len(group)
    return least, None if group else least + len(optional)


def place_sort(name, many, at):
    """Whether an argument, told by its number from 0 on, of so many is "single", "wide" or "free"."""
    check_function(name)
    check_many(name, many)
    check_range(at, 0, many - 1)
    return sort_of_letter(letters_for(name, many)[at])


def check_function(name):
    """The name of a function."""
    check_string(name)
    if name not in _PLACES:
        raise Unknown(name)


def check_many(name, many):
    """A number of arguments that a function takes."""
    if not is_integer(many) or not is_taken(name, many):
        raise BadValue(many)


def is_function(name):
    """Whether a string is the name of a function."""
    return name in _PLACES


def is_taken(name, many):
    """Whether a function takes so many arguments."""
    always, optional, group, last = _PLACES[name]
    rest = many - len(always)
    if not group:
        return 0 <= rest <= len(optional)
    if rest < len(group):
        return False
    return rest % len(group) == 0 or (last != "" and rest % len(group) == 1)


def letters_for(name, many):
    """The string of the letters of the places of so many arguments, as a function takes them."""
    always, optional, group, last = _PLACES[name]
    rest = many - len(always)
    if not group:
        return always + optional[:rest]
    letters = always + group * (rest // len(group))
    return letters if len(letters) == many else letters + last


def sort_of_letter(letter):
    """Whether a place with a letter is "single", "wide" or "free"."""
    if letter in "gh":
        return "wide"
    return "free" if letter in "ab" else "single"
