"""The lines that a desk is told: their forms, and their words."""

from tuningyard.errors import NoLine, NoNote
from tuningyard.figures import is_signed

# For each first word, how many words stand behind it.
COUNTS = {
    "comma": 1,
    "key": 5,
    "ring": 6,
    "nothing": 1,
    "sound": 1,
    "same": 0,
    "forget": 0,
    "tune": 2,
    "move": 2,
    "show": 1,
    "alike": 2,
    "chord": 3,
    "steps": 2,
}
# Lines of which the last word is a text, with all blanks that are left, and those which hold numbers alone.
WITH_TEXT = ("tune", "chord")
WITH_NUMBERS = ("key", "ring")
NUMBER_FIGURES = 4
LONGEST_NAME = 8
SMALL_LETTERS = "abcdefghijklmnopqrstuvwxyz"


def line_words(line):
    """The words of a line that has one of the forms; a text at its end is one word."""
    words = line.split(" ")
    if words[0] not in COUNTS:
        raise NoLine("no line begins with this word")
    count = COUNTS[words[0]]
    if len(words) <= count:
        raise NoLine("the line has too few words")
    if words[0] in WITH_TEXT:
        words = words[:count] + [" ".join(words[count:])]
    if len(words) > count + 1:
        raise NoLine("the line has too many words")
    if words[0] in WITH_NUMBERS and not all([is_signed(word, NUMBER_FIGURES) for word in words[1:]]):
        raise NoLine("a word is no number of at most four figures")
    return words


def name_checked(word):
    """The word itself, where it is a name for a tune or a chord."""
    if not 1 <= len(word) <= LONGEST_NAME or not all([letter in SMALL_LETTERS for letter in word]):
        raise NoNote("a name is one to eight small letters")
    return word


def kept_by(things, word):
    """What stands by a name among the things kept."""
    # A word that is no name needs no look of its own: nothing is kept by it, and it is refused alike.
    if word not in things:
        raise NoNote("nothing stands by this name")
    return things[word]
