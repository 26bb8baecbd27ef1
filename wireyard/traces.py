"""Traces: what came at the doors in and what was told at the doors out, beat by beat; as texts, and of yards."""

from wireyard.bits import is_word
from wireyard.errors import BadDoors, BadTrace
from wireyard.plain import Plain
from wireyard.signs import is_name, number_by
from wireyard.walks import names_told

MOST_BEATS = 200
WORD_WIDTH = 64


def trace_of(yard, beats):
    """The trace of a yard that goes from the beginning on by these doors."""
    plain = Plain(yard)
    if not isinstance(beats, list):
        raise BadDoors("beats are no list")
    ins = names_told(yard[-1], "in")
    return tuple([beat_by(ins, doors, plain.beat(doors)) for doors in beats])


def beat_by(ins, doors, outs):
    """A trace's beat, by dicts of its doors' words and of its outs, the doors in the order of ins."""
    return (tuple([(name, doors[name]) for name in ins]), tuple(outs.items()))


def played(yard, trace):
    """The number of the first beat whose outs a yard tells otherwise, None without one."""
    plain = Plain(yard)
    need_trace(trace)
    for at, (doors, outs) in enumerate(trace):
        told = plain.beat(dict(doors))
        if tuple(told.items()) != outs:
            return at
    return None


def need_trace(thing):
    if not is_trace(thing):
        raise BadTrace(None)


def is_trace(thing):
    """Whether a thing, of any kind, is a trace."""
    if not isinstance(thing, tuple) or len(thing) > MOST_BEATS:
        return False
    if not all([_is_beat(beat) for beat in thing]):
        return False
    return all([_names_of(beat) == _names_of(thing[0]) for beat in thing])


def _is_beat(thing):
    return isinstance(thing, tuple) and len(thing) == 2 and all([_are_pairs(pairs) for pairs in thing])


def _are_pairs(thing):
    """Whether a thing is a tuple of pairs of name and word, each name once."""
    if not isinstance(thing, tuple) or not all([_is_pair(pair) for pair in thing]):
        return False
    return len({name for name, _ in thing}) == len(thing)


def _is_pair(thing):
    return isinstance(thing, tuple) and len(thing) == 2 and is_name(thing[0]) and is_word(thing[1], WORD_WIDTH)


def _names_of(beat):
    return [[name for name, _ in pairs] for pairs in beat]


def trace_text(trace):
    """The text of a trace."""
    need_trace(trace)
    rows = []
    at = 0
    while at < len(trace):
        many = _like_ahead(trace, at)
        rows.append(f"> {many}" if many > 1 else _row_of(trace, at))
        at += max(many, 1)
    return "\n".join(rows)


def _like_ahead(trace, at):
    """How many beats, one behind the other from a place on, are like the one ahead of it."""
    end = at
    while 0 < at and end < len(trace) and trace[end] == trace[at - 1]:
        end += 1
    return end - at


def _row_of(trace, at):
    doors, outs = trace[at]
    doors_ahead, outs_ahead = trace[at - 1] if at > 0 else ((), ())
    return " ".join(_told_of(doors, doors_ahead) + [">"] + _told_of(outs, outs_ahead))


def _told_of(pairs, ahead):
    """The texts of the pairs that are others than in the beat ahead."""
    return [f"{name}={word}" for name, word in pairs if (name, word) not in ahead]


def trace_in(text):
    """The trace whose text this is."""
    if not isinstance(text, str):
        raise BadTrace(None)
    reading = TraceReading()
    if text != "":
        for at, row in enumerate(text.split("\n")):
            if not reading.takes(row):
                raise BadTrace(at)
    return tuple(reading.beats)


class TraceReading:
    """The beats read so far, and whether the last row told that nothing was another."""

    def __init__(self):
        self.beats = []
        self.still = False

    def takes(self, row):
        """Whether a text of a trace goes on by this row; if so, its beats are added."""
        words = row.split(" ")
        many = _count_in(words)
        if many is None:
            return self.takes_beat(words)
        return self.takes_still(many) if many > 1 else False

    def takes_still(self, many):
        """Takes so many beats that are like the one ahead."""
        if not self.beats or self.still or len(self.beats) + many > MOST_BEATS:
            return False
        self.beats.extend([self.beats[-1]] * many)
        self.still = True
        return True

    def takes_beat(self, words):
        if self.beats and words == [">"]:
            return self.takes_still(1)
        beat = self.beat_in(words)
        if beat is None or len(self.beats) == MOST_BEATS:
            return False
        self.beats.append(beat)
        self.still = False
        return True

    def beat_in(self, words):
        """The beat that a row's words tell, None where they tell none here."""
        if words.count(">") != 1:
            return None
        border = words.index(">")
        sides = [_pairs_in(words[:border]), _pairs_in(words[border + 1:])]
        if self.beats:
            sides = [_changed(ahead, pairs) for ahead, pairs in zip(self.beats[-1], sides)]
        beat = tuple(sides)
        return beat if _is_beat(beat) else None


def _count_in(words):
    """The number in a row that tells how many beats are like the one ahead, None in all other rows."""
    if len(words) != 2 or words[0] != ">":
        return None
    return number_by(words[1])


def _pairs_in(words):
    """The pairs that words tell; a word that tells none is a pair that is none."""
    pairs = []
    for word in words:
        name, _, number = word.partition("=")
        pairs.append((name, number_by(number)))
    return tuple(pairs)


def _changed(ahead, told):
    """The pairs of a beat, by those of the one ahead and by those that are told to be others; None if they aren't."""
    pairs = []
    at = 0
    for name, word in ahead:
        if at < len(told) and told[at][0] == name:
            if told[at][1] == word:
                return None
            word = told[at][1]
            at += 1
        pairs.append((name, word))
    return tuple(pairs) if at == len(told) else None
