"""Words of texts: they are taken one by one, and the first one that cannot stand is told."""

from wheelreach.errors import BadText

MOST_DIGITS = 120
BEYOND = 10 ** 60 * 10 ** 60
CHUNK = 10 ** 64
CHUNK_DIGITS = 64
MOST_LETTERS = 8


def number_in(word):
    """The integer from 0 on that str writes as this word; None if there is none of at most 120 digits."""
    if not word.isascii() or not word.isdigit() or len(word) > MOST_DIGITS:
        return None
    if word[0] == "0" and len(word) > 1:
        return None
    return int(word)


def integer_in(word):
    """The integer that str writes as this word; None if there is none of at most 120 digits."""
    if not word.startswith("-"):
        return number_in(word)
    number = number_in(word[1:])
    return -number if number else None


def number_text(number):
    """What str writes for an integer from 0 on, also for one that is too long for str."""
    parts = []
    left = number
    while left >= CHUNK:
        left, last = divmod(left, CHUNK)
        parts.append(str(last).zfill(CHUNK_DIGITS))
    parts.append(str(left))
    return "".join(parts[::-1])


def integer_text(number):
    """What str writes for any integer, also for one that is too long for str."""
    return f"-{number_text(-number)}" if number < 0 else number_text(number)


def run_words(runs):
    """Each run as its begin, `to` and its end, with a comma between two of them."""
    return " , ".join([f"{integer_text(begin)} to {integer_text(end)}" for begin, end in runs])


def mark_words(marks):
    """Each mark of a reading, `-` for a lost wheel."""
    return " ".join(["-" if mark is None else number_text(mark) for mark in marks])


def is_name(value):
    """Whether any value is a name: a string of 1 to 8 letters from a to z."""
    if not isinstance(value, str) or not 1 <= len(value) <= MOST_LETTERS:
        return False
    return value.isascii() and value.isalpha() and value.islower()


class Words:
    """The words of a text, in order; its errors tell the line that is passed."""

    def __init__(self, text, line=0):
        if not isinstance(text, str):
            raise BadText(line, 0)
        self.words = text.split(" ")
        self.line = line
        self.at = 0

    def upcoming(self):
        """The next word; None behind the last one."""
        return self.words[self.at] if self.at < len(self.words) else None

    def take(self, *allowed):
        """The next word, which must be one of those that are allowed."""
        word = self.upcoming()
        if word not in allowed:
            raise BadText(self.line, self.at)
        self.at = self.at + 1
        return word

    def take_number(self, low, high):
        """The next word as an integer from low to high."""
        word = self.upcoming()
        number = None if word is None else number_in(word)
        if number is None or not low <= number <= high:
            raise BadText(self.line, self.at)
        self.at = self.at + 1
        return number

    def take_whole(self):
        """The next word as an integer from 0 on."""
        return self.take_number(0, BEYOND)

    def take_mark(self):
        """The next word as a mark, an integer from 0 on; None for `-`."""
        if self.upcoming() == "-":
            self.at = self.at + 1
            return None
        return self.take_whole()

    def take_integer(self, bound=BEYOND):
        """The next word as an integer that is at most bound from 0."""
        word = self.upcoming()
        number = None if word is None else integer_in(word)
        if number is None or abs(number) > bound:
            raise BadText(self.line, self.at)
        self.at = self.at + 1
        return number

    def take_name(self, above=""):
        """The next word as a name that stands behind the one ahead of it."""
        word = self.upcoming()
        if not is_name(word) or word <= above:
            raise BadText(self.line, self.at)
        self.at = self.at + 1
        return word

    def finish(self):
        """There must be no word more."""
        if self.at < len(self.words):
            raise BadText(self.line, self.at)
