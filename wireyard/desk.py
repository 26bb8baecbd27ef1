"""A desk: goes through a yard by lines, each of which is answered by a text."""

from wireyard.bits import is_word
from wireyard.errors import BadLine, TooMany
from wireyard.fewer import fewer
from wireyard.flat import flat
from wireyard.looking import looked
from wireyard.plain import Plain
from wireyard.reading import read
from wireyard.running import Running
from wireyard.signs import number_by
from wireyard.swift import Swift
from wireyard.traces import MOST_BEATS, beat_by, trace_text
from wireyard.walks import widths_in

WAYS = ("plain", "swift", "flat", "few")
BAD_LINE = "bad line"
BAD_DOORS = "bad doors"
TOO_MANY = "too many"
NOTHING = "nothing"
DONE = "done"
NONE = "-"


class Moment:
    """The desk as it stands behind a beat, or ahead of the first one: the beat's doors and outs, and the state."""

    def __init__(self, doors, outs, going):
        self.doors = dict(doors)
        self.outs = dict(outs)
        self.resting = going.rests()
        self.stores = going.cells()


class Desk:
    """A yard that is gone through one way, with all moments from the one ahead of the first beat on."""

    def __init__(self, text):
        self.yard = read(text)
        looked(self.yard)
        widths = widths_in(self.yard[-1], ())
        self.ins = {row[1]: widths[row[1]] for row in self.yard[-1][2] if row[0] == "in"}
        self.nets = None
        self.going = Plain(self.yard)
        self.moments = [Moment({name: 0 for name in self.ins}, {}, self.going)]

    def told(self, line):
        """The answer to a line."""
        if not isinstance(line, str):
            raise BadLine("this is no text")
        words = line.split(" ")
        if words[0] == "beat":
            return self.beat(words[1:])
        if len(words) == 2 and words[0] == "again":
            return self.again(number_by(words[1]))
        if len(words) == 2 and words[0] == "way":
            return self.go_by(words[1])
        return self.told_alone(words[0]) if len(words) == 1 else BAD_LINE

    def told_alone(self, word):
        """The answer to a line of one word."""
        if word == "back":
            return self.back()
        if word == "undo":
            return self.undo()
        if word == "rests":
            return _pairs_text(self.moments[-1].resting)
        if word == "cells":
            return _pairs_text([(name, _cells_text(cells)) for name, cells in self.moments[-1].stores])
        if word == "beats":
            return str(self.many())
        if word == "trace":
            return self.trace().replace("\n", " / ")
        return self.rows_told() if word == "rows" else BAD_LINE

    def many(self):
        """How many beats were done."""
        return len(self.moments) - 1

    def beat(self, words):
        """One beat, by the doors as they are but for those that words tell."""
        told = self.doors_in(words)
        if told is None:
            return BAD_DOORS
        if self.many() == MOST_BEATS:
            return TOO_MANY
        doors = dict(self.moments[-1].doors)
        doors.update(told)
        return self.go_on(doors)

    def doors_in(self, words):
        """A dict of the doors' words that words tell, None where one tells none."""
        told = {}
        for word in words:
            name, _, figures = word.partition("=")
            number = number_by(figures)
            if name not in self.ins or name in told or not is_word(number, self.ins[name]):
                return None
            told[name] = number
        return told

    def go_on(self, doors):
        outs = self.going.beat(doors)
        self.moments.append(Moment(doors, outs, self.going))
        return _pairs_text(list(outs.items()))

    def again(self, number):
        """So many beats by the doors as they are."""
        if number is None or not 1 <= number <= MOST_BEATS:
            return BAD_LINE
        if self.many() + number > MOST_BEATS:
            return TOO_MANY
        answer = NONE
        for _ in range(number):
            answer = self.go_on(self.moments[-1].doors)
        return answer

    def go_by(self, way):
        """Goes another way from here on."""
        if way not in WAYS:
            return BAD_LINE
        try:
            self.going = self.going_by(way)
        except TooMany:
            return TOO_MANY
        self.stand()
        return DONE

    def going_by(self, way):
        if way == "plain":
            return Plain(self.yard)
        if way == "swift":
            return Swift(self.yard)
        net, few = self.both_nets()
        return Running(net if way == "flat" else few)

    def stand(self):
        """Brings what goes through the yard to the last moment."""
        self.going.stand(self.moments[-1].resting, self.moments[-1].stores)

    def back(self):
        self.moments = self.moments[:1]
        self.stand()
        return DONE

    def undo(self):
        if self.many() == 0:
            return NOTHING
        self.moments.pop()
        self.stand()
        return DONE

    def trace(self):
        """The text of the trace of the beats that were done."""
        ins = list(self.ins)
        return trace_text(tuple([beat_by(ins, moment.doors, moment.outs) for moment in self.moments[1:]]))

    def rows_told(self):
        """How many rows the yard's net has, and that one made fewer."""
        try:
            net, few = self.both_nets()
        except TooMany:
            return TOO_MANY
        return f"{len(net[1])} {len(few[1])}"

    def both_nets(self):
        """The yard's net, and that one made fewer; made when they are first asked for."""
        if self.nets is None:
            net = flat(self.yard)
            self.nets = (net, fewer(net))
        return self.nets


def _pairs_text(pairs):
    return " ".join([f"{name}={word}" for name, word in pairs]) or NONE


def _cells_text(cells):
    return ",".join([str(word) for word in cells])


def answered(text, lines):
    """The answers to a list of lines, at a desk of their own."""
    desk = Desk(text)
    if not isinstance(lines, list):
        raise BadLine("lines are no list")
    return [desk.told(line) for line in lines]
