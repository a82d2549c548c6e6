"""Journals: texts with a line for each group that was done and for each end of an epoch."""

from sumgrove.accounts import NUMBER_OF_NOTES
from sumgrove.deeds import FORMS, Group
from sumgrove.names import is_name
from sumgrove.refusals import InvalidLine
from sumgrove.texts import is_written_number

END = "end"
MOST_DIGITS_IN_GROUP = 40
MOST_DIGITS_OF_LENGTH = 9


def write_group(group):
    """Return the written form of a group."""
    words = [group.epoch, len(group.deeds)]
    for deed in group.deeds:
        for item in deed:
            words.extend(item if isinstance(item, tuple) else [item])
    words.append(len(group.signatures))
    for name, shown in group.signatures:
        words.extend([name, len(shown)])
        for triple in shown:
            words.extend(triple)
    return " ".join([str(word) for word in words])


class Words:
    """The words of a body, which are taken one after the other."""

    def __init__(self, body):
        self._body = body
        self._words = body.split(" ")
        self._place = 0

    def refuse(self):
        """Raise InvalidLine for the body."""
        raise InvalidLine(self._body)

    def take(self):
        """Take a word. Raise InvalidLine if there is none left."""
        if self._place == len(self._words):
            self.refuse()
        self._place = self._place + 1
        return self._words[self._place - 1]

    def take_number(self):
        """Take an integer. Raise InvalidLine."""
        word = self.take()
        if not is_written_number(word, MOST_DIGITS_IN_GROUP):
            self.refuse()
        return int(word)

    def take_name(self):
        """Take a name. Raise InvalidLine."""
        word = self.take()
        if not is_name(word):
            self.refuse()
        return word

    def take_numbers(self, many):
        """Take a tuple of so many integers. Raise InvalidLine."""
        return tuple([self.take_number() for _ in range(many)])

    def stop(self):
        """Raise InvalidLine if words are left."""
        if self._place < len(self._words):
            self.refuse()


def read_group(body):
    """Return the group that a body writes. Raise InvalidLine."""
    words = Words(body)
    epoch = words.take_number()
    deeds = tuple([take_deed(words) for _ in range(words.take_number())])
    signatures = tuple([take_signature(words) for _ in range(words.take_number())])
    words.stop()
    return Group(deeds, signatures, epoch)


def take_deed(words):
    """Take the words of a deed and return it. Raise InvalidLine."""
    word = words.take()
    if word not in FORMS:
        words.refuse()
    return (word, *[take_item(words, form) for form in FORMS[word]])


def take_item(words, form):
    """Take the words of an item of a deed and return it. Raise InvalidLine."""
    if form == "name":
        return words.take_name()
    if form == "notes":
        return words.take_numbers(NUMBER_OF_NOTES)
    return words.take_number()


def take_signature(words):
    """Take the words of a signature and return it. Raise InvalidLine."""
    name = words.take_name()
    return (name, tuple([words.take_numbers(3) for _ in range(words.take_number())]))


def line_of(body):
    """Return the line with a body and with the newline."""
    return f"{len(body)} {body}\n"


def group_line(group):
    """Return the line of a group."""
    return line_of(write_group(group))


def end_line():
    """Return the line of the end of an epoch."""
    return line_of(END)


def read_line(line):
    """Return what a line without its newline stands for: a group, or None for an end. Raise InvalidLine."""
    length, _, body = line.partition(" ")
    if length != str(len(body)) or len(length) > MOST_DIGITS_OF_LENGTH:
        raise InvalidLine(body)
    return None if body == END else read_group(body)


def read_journal(text):
    """Return (what the lines of the readable part of a text stand for, its length)."""
    found = []
    length = 0
    # No body contains a newline, so each whole line ends at the first one; behind the last one there is none.
    for line in text.split("\n")[:-1]:
        try:
            found.append(read_line(line))
        except InvalidLine:
            break
        length = length + len(line) + 1
    return (found, length)


def readable_length(text):
    """Return how many characters the readable part of a journal has."""
    return read_journal(text)[1]


def read_lines(text):
    """Return the list of the groups of the readable part of a journal, with None for each end of an epoch."""
    return read_journal(text)[0]
