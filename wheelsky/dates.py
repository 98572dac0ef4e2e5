"""Calendars with short and long years, and with short and long months."""

from wheelsky.errors import Mismatch
from wheelsky.forms import is_whole, is_whole_within, require
from wheelsky.leaps import is_word
from wheelsky.ratios import fraction, is_fraction

LONGEST_SHORT = 1000
MOST_YEARS = 400


class Calendar:
    """A calendar whose year y has `short` days and as many more as the word says."""

    def __init__(self, word, *, short):
        require(is_word(word), "word")
        require(is_whole_within(short, 1, LONGEST_SHORT), "short")
        self.word = word
        self.short = short
        self.mean = fraction(short * len(word) + sum(word), len(word))

    def __eq__(self, other):
        return isinstance(other, Calendar) and self.word == other.word and self.short == other.short

    def year_days(self, year):
        """Return the number of days of the year."""
        require(is_whole(year), "year")
        return self.short + self.word[year % len(self.word)]

    def first_day(self, year):
        """Return the number of the first day of the year."""
        require(is_whole(year), "year")
        rounds, index = divmod(year, len(self.word))
        return self.short * year + rounds * sum(self.word) + sum(self.word[:index])

    def date_of(self, day):
        """Return the date (year, at) of the day."""
        require(is_whole(day), "day")
        rounds, at = divmod(day, self.first_day(len(self.word)))
        index = 0
        while at >= self.year_days(index):
            at = at - self.year_days(index)
            index = index + 1
        return (rounds * len(self.word) + index, at)

    def day_of(self, year, at):
        """Return the number of the day with the date (year, at)."""
        require(is_whole(year), "year")
        require(_is_count(at), "at")
        if at >= self.year_days(year):
            raise Mismatch()
        return self.first_day(year) + at


class TwinCalendar:
    """Two calendars: the years of `months` are the months, of which `years` makes years."""

    def __init__(self, months, years):
        require(isinstance(months, Calendar), "months")
        require(isinstance(years, Calendar), "years")
        self.months = months
        self.years = years

    def __eq__(self, other):
        return isinstance(other, TwinCalendar) and self.months == other.months and self.years == other.years

    def month_count(self, year):
        """Return the number of months of the year."""
        require(is_whole(year), "year")
        return self.years.year_days(year)

    def first_month(self, year):
        """Return the number of the first month of the year."""
        require(is_whole(year), "year")
        return self.years.first_day(year)

    def year_days(self, year):
        """Return the number of days of the year."""
        require(is_whole(year), "year")
        return self.first_day(year + 1) - self.first_day(year)

    def first_day(self, year):
        """Return the number of the first day of the year."""
        require(is_whole(year), "year")
        return self.months.first_day(self.first_month(year))

    def date_of(self, day):
        """Return the date (year, month, at) of the day."""
        require(is_whole(day), "day")
        number, at = self.months.date_of(day)
        year, month = self.years.date_of(number)
        return (year, month, at)

    def day_of(self, year, month, at):
        """Return the number of the day with the date (year, month, at)."""
        require(is_whole(year), "year")
        require(_is_count(month), "month")
        require(_is_count(at), "at")
        return self.months.day_of(self.years.day_of(year, month), at)


def calendar_error(calendar, *, mean, years):
    """Return how far the years up to `years` begin from their even places, and the worst year."""
    require(isinstance(calendar, Calendar) or isinstance(calendar, TwinCalendar), "calendar")
    require(is_fraction(mean), "mean")
    require(is_whole_within(years, 0, MOST_YEARS), "years")
    numerator, denominator = mean
    errors = [abs(calendar.first_day(year) * denominator - year * numerator) for year in range(years + 1)]
    return (fraction(max(errors), denominator), errors.index(max(errors)))


def _is_count(value):
    return is_whole(value) and value >= 0
