"""Days: the Gregorian calendar from 1900 to 9999, and the functions of it."""

from allinputs.checks import check_integer, check_range
from allinputs.places import given, ready, whole_within
from allinputs.ratios import Ratio
from allinputs.values import Fault

FIRST_YEAR = 1900

LAST_YEAR = 9999

LAST_DAY = 2958464

_MONTH_DAYS = (31, 28, 31, 30, 31, 30, 31, 31, 30, 31, 30, 31)


def day_number(year, month, day):
    """The number of a day, None if there is none from 1900 to 9999."""
    check_integer(year)
    check_integer(month)
    check_integer(day)
    if year < FIRST_YEAR or year > LAST_YEAR or month < 1 or month > 12:
        return None
    if day < 1 or day > days_of_month(year, month):
        return None
    return number_of(year, month) + day - 1


def date_of(number):
    """The triple of the year, the month and the day of a day."""
    check_range(number, 1, LAST_DAY)
    # All years have at most 366 days, so the year is never less than the one that this tells.
    year = FIRST_YEAR + (number - 1) // 366
    while year < LAST_YEAR and number_of(year + 1, 1) <= number:
        year = year + 1
    month = 1
    while month < 12 and number_of(year, month + 1) <= number:
        month = month + 1
    return year, month, number - number_of(year, month) + 1


def is_leap(year):
    """Whether a year has a leap day."""
    return year % 4 == 0 and (year % 100 != 0 or year % 400 == 0)


def days_of_month(year, month):
    """How many days a month has."""
    return 29 if month == 2 and is_leap(year) else _MONTH_DAYS[month - 1]


def number_of(year, month):
    """The number of the first day of a month, of any year from 1900 on."""
    before = year - 1
    leaps = before // 4 - before // 100 + before // 400 - 460
    days = sum([days_of_month(year, other) for other in range(1, month)])
    return (year - FIRST_YEAR) * 365 + leaps + days + 1


def _day_of(number):
    """The day that a number tells, None if there is none."""
    day = whole_within(number, 1, LAST_DAY + 1)
    return None if day < 1 or day > LAST_DAY else day


def _part_of_date(things, at):
    """A part of the date of a day, or a Fault."""
    told = ready("d", things)
    if isinstance(told, Fault):
        return told
    day = _day_of(told[0])
    return Fault("NUM") if day is None else Ratio(date_of(day)[at])


def _year(things):
    """YEAR."""
    return _part_of_date(things, 0)


def _month(things):
    """MONTH."""
    return _part_of_date(things, 1)


def _day(things):
    """DAY."""
    return _part_of_date(things, 2)


def _weekday(things):
    """WEEKDAY."""
    told = ready("di", things)
    if isinstance(told, Fault):
        return told
    day = _day_of(told[0])
    way = whole_within(given(told, 1, Ratio(1)), 1, 3)
    if day is None or way < 1 or way > 2:
        return Fault("NUM")
    return Ratio(day % 7 + 1 if way == 1 else (day - 1) % 7 + 1)


def _date(things):
    """DATE."""
    told = ready("ijk", things)
    if isinstance(told, Fault):
        return told
    year = whole_within(told[0], FIRST_YEAR, LAST_YEAR + 1)
    if year < FIRST_YEAR or year > LAST_YEAR:
        return Fault("NUM")
    first = _first_day(year, 1, told[1])
    if first is None:
        return Fault("NUM")
    number = whole_within(told[2], 2 - first, LAST_DAY + 2 - first) + first - 1
    return Fault("NUM") if number < 1 or number > LAST_DAY else Ratio(number)


def _first_day(year, month, count):
    """The first day of the month that a count of months, from 1 for a month itself on, leads to; None without one."""
    ahead = (year - FIRST_YEAR) * 12 + month - 1
    most = (LAST_YEAR - FIRST_YEAR + 1) * 12
    at = ahead + whole_within(count, 1 - ahead, most + 1 - ahead) - 1
    if at < 0 or at >= most:
        return None
    return number_of(FIRST_YEAR + at // 12, at % 12 + 1)


def _same_day(things):
    """EDATE."""
    return _in_month(things, False)


def _month_end(things):
    """EOMONTH."""
    return _in_month(things, True)


def _in_month(things, is_end):
    """A day so many months later: the same one, if there is one and its end is not asked for, or the last one."""
    told = ready("dk", things)
    if isinstance(told, Fault):
        return told
    day = _day_of(told[0])
    if day is None:
        return Fault("NUM")
    year, month, at = date_of(day)
    first = _first_day(year, month, told[1] + 1)
    if first is None:
        return Fault("NUM")
    later, other, _ = date_of(first)
    last = days_of_month(later, other)
    return Ratio(first - 1 + (last if is_end or at > last else at))


DAYS = {
    "DATE": _date, "YEAR": _year, "MONTH": _month, "DAY": _day, "WEEKDAY": _weekday, "EDATE": _same_day,
    "EOMONTH": _month_end,
}
