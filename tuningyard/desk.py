"""A desk, which keeps commas, keys, tunes and chords, and answers lines."""

from tuningyard.errors import NoBoard
from tuningyard.keys import checked_keys, values
from tuningyard.leading import least_steps
from tuningyard.lines import kept_by, line_words, name_checked
from tuningyard.moves import heard_alike, moved
from tuningyard.names import name_of, named
from tuningyard.rows import ONE
from tuningyard.spans import span_read
from tuningyard.stacks import stack_read, tones_of
from tuningyard.tables import checked_commas, rest
from tuningyard.tunes import tune_read, tune_text
from tuningyard.tunings import Board, CommaTuning
from tuningyard.ways import held

# Each answer below reads the words behind the line's first one from the left, as the first that is refused tells the
# refusal, and keeps something only where nothing can be refused any more.


def yes_or_no(truth):
    """A truth as a desk answers it."""
    return "yes" if truth else "no"


def comma_answer(desk, words):
    """Keep a comma."""
    span = span_read(words[0])
    desk.commas = checked_commas(desk.commas + [span])
    return str(len(desk.commas))


def key_kept(desk, row, ring):
    """Keep a key."""
    desk.own_keys = checked_keys(desk.own_keys + [(row, ring)])
    return str(len(desk.own_keys))


def key_answer(desk, words):
    """Keep the key of a row with ring 0."""
    return key_kept(desk, tuple([int(word) for word in words]), 0)


def ring_answer(desk, words):
    """Keep the key of a ring and a row."""
    return key_kept(desk, tuple([int(word) for word in words[1:]]), int(words[0]))


def nothing_answer(desk, words):
    """Whether a span is made by the commas kept."""
    return yes_or_no(rest(desk.commas, span_read(words[0])) == ONE)


def sound_answer(desk, words):
    """The values of a span by the keys kept."""
    return " ".join([str(number) for number in values(desk.own_keys, span_read(words[0]))])


def same_answer(desk, words):
    """The commas and keys kept, held against each other."""
    found = held(desk.commas, desk.own_keys)
    if found[0] == "comma":
        return "comma " + str(found[1])
    return found[0]


def forget_answer(desk, words):
    """Keep no commas and keys any more."""
    desk.commas = []
    desk.own_keys = []
    return "forgotten"


def tune_answer(desk, words):
    """Keep a tune by a name."""
    name = name_checked(words[0])
    tune = tune_read(words[1])
    desk.tunes[name] = tune
    return tune_text(tune)


def move_answer(desk, words):
    """Move a tune and keep it."""
    tune = kept_by(desk.tunes, words[0])
    span = span_read(words[1])
    there = moved(tune, span)
    desk.tunes[words[0]] = there
    return tune_text(there)


def show_answer(desk, words):
    """Tell a tune."""
    return tune_text(kept_by(desk.tunes, words[0]))


def alike_answer(desk, words):
    """Whether two tunes are heard alike in the tuning of the commas kept."""
    one = kept_by(desk.tunes, words[0])
    other = kept_by(desk.tunes, words[1])
    return yes_or_no(heard_alike(CommaTuning(desk.commas), one, other))


def chord_answer(desk, words):
    """Keep the tones of a stack upon a root as a chord by a name."""
    name = name_checked(words[0])
    root = named(words[1])
    stack = stack_read(words[2])
    tones = tones_of(root, stack)
    desk.chords[name] = tones
    return " ".join([name_of(tone) for tone in tones])


def board_of(keys):
    """The board of the first key."""
    if keys == [] or keys[0][1] != 0:
        raise NoBoard("a board is told by a first key with ring 0")
    return Board(keys[0][0])


def steps_answer(desk, words):
    """The least steps from one chord to another."""
    chord = kept_by(desk.chords, words[0])
    goal = kept_by(desk.chords, words[1])
    return str(least_steps(board_of(desk.own_keys), chord, goal))


ANSWERS = {
    "comma": comma_answer,
    "key": key_answer,
    "ring": ring_answer,
    "nothing": nothing_answer,
    "sound": sound_answer,
    "same": same_answer,
    "forget": forget_answer,
    "tune": tune_answer,
    "move": move_answer,
    "show": show_answer,
    "alike": alike_answer,
    "chord": chord_answer,
    "steps": steps_answer,
}


class Desk:
    """Commas, keys, tunes and chords, at first none, and the answers to lines about them."""

    def __init__(self):
        self.commas = []
        self.own_keys = []
        self.tunes = {}
        self.chords = {}

    def told(self, line):
        """The answer to a line."""
        words = line_words(line)
        answer = ANSWERS[words[0]]
        return answer(self, words[1:])
