"""Chords led on to one another on a board, by least steps, with prices that show it."""

from tuningyard.errors import NoChord

MOST_TONES = 6


def way(board, one, other):
    """The steps from one tone to another, moved by any octaves, and the sound at which the way comes."""
    start = board.sound(one)
    up = (board.sound(other) - start) % board.octave
    down = board.octave - up
    return (up, start + up) if up < down else (down, start - down)


class Leading:
    """Tones led on to goals by least steps, one tone more at a time, with prices of both.

    A tone's price and a goal's never come to more than the steps from the one to the other, and to just as much where
    the tone goes there.
    """

    def __init__(self, ways):
        self.ways = ways
        self.tone_prices = [0 for row in ways]
        self.goal_prices = [0 for row in ways]
        self.goals = [None for row in ways]
        self.comers = [None for row in ways]

    def room(self, tone, goal):
        """How much more than their prices the steps from the tone to the goal are."""
        return self.ways[tone][goal][0] - self.tone_prices[tone] - self.goal_prices[goal]

    def nearest(self, tones, origins):
        """The pair (tone, goal) with the least room, of these tones and the goals that have no origin yet."""
        goals = [goal for goal in range(len(self.ways)) if goal not in origins]
        pairs = []
        for tone in tones:
            pairs.extend([(tone, goal) for goal in goals])
        return min(pairs, key=lambda pair: self.room(pair[0], pair[1]))

    def shift(self, tones, origins, amount):
        """Raise the tones' prices and lower those of the goals that have an origin: between them nothing changes."""
        for tone in tones:
            self.tone_prices[tone] = self.tone_prices[tone] + amount
        for goal in origins:
            self.goal_prices[goal] = self.goal_prices[goal] - amount

    def turn(self, goal, origins):
        """Let the goal's origin go there, the origin of the goal that is left by it go to that one, and so on."""
        free = goal
        while free is not None:
            tone = origins[free]
            left = self.goals[tone]
            self.goals[tone] = free
            self.comers[free] = tone
            free = left

    def lead(self, first):
        """Lead the tone on, and others anew where it must be."""
        # Tones that may have to go elsewhere are gathered until one of them finds a goal to which none goes; origins
        # tells of each goal found which of the tones found it.
        tones = []
        origins = {}
        pair = (first, None)
        comer = first
        while comer is not None:
            tones.append(comer)
            pair = self.nearest(tones, origins)
            self.shift(tones, origins, self.room(pair[0], pair[1]))
            origins[pair[1]] = pair[0]
            comer = self.comers[pair[1]]
        self.turn(pair[1], origins)


def ways_from(board, one, goal):
    """The ways from one tone to each tone of the goal."""
    return [way(board, one, other) for other in goal]


def led(board, chord, goal):
    """Where each tone of the chord goes, the sound at which it comes, and the prices of both chords' tones."""
    if not 1 <= len(chord) <= MOST_TONES or len(chord) != len(goal):
        raise NoChord("chords are led on which have 1 to 6 tones, as many in the one as in the other")
    ways = [ways_from(board, one, goal) for one in chord]
    leading = Leading(ways)
    for tone in range(len(chord)):
        leading.lead(tone)
    sounds = [row[number][1] for row, number in zip(ways, leading.goals)]
    return (leading.goals, sounds, leading.tone_prices, leading.goal_prices)


def least_steps(board, chord, goal):
    """The sum of the steps where the chord is led on to the goal."""
    found = led(board, chord, goal)
    return sum(found[2]) + sum(found[3])
