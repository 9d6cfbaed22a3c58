"""Slips that wait to go, and which of them is the next one."""

from slipwire.sorts import ENDING


class Waiting:
    """The slips that wait: the controls, and, talk by talk, those of letters with the end behind them."""

    def __init__(self):
        self.controls = []
        self.rows = {}
        # The talk of which a slip of rows went last: at first any talk is above it.
        self.turn = -1

    def put_control(self, slip):
        self.controls.append(slip)

    def put_slips(self, talk, slips):
        self.rows[talk] = self.rows.get(talk, []) + slips

    def take_next(self):
        """The slip that goes next, which waits no more; None where none waits."""
        if len(self.controls) > 0:
            return self.controls.pop(0)
        if len(self.rows) == 0:
            return None
        talk = self.next_talk()
        row = self.rows[talk]
        slip = row.pop(0)
        if len(row) == 0:
            del self.rows[talk]
        self.turn = talk
        return slip

    def next_talk(self):
        above = [talk for talk in self.rows if talk > self.turn]
        return min(above) if len(above) > 0 else min(list(self.rows))

    def drop_letters(self, talk):
        """The slips of letters in that talk wait no more, an end of it does."""
        kept = [slip for slip in self.rows.pop(talk, []) if slip.kind == ENDING]
        if len(kept) > 0:
            self.rows[talk] = kept

    def drop_all(self):
        self.controls = []
        self.rows = {}

    def how_many(self):
        return len(self.controls) + sum([len(row) for row in self.rows.values()])

    def twin(self):
        """One of its own that stands where this one does."""
        other = Waiting()
        other.controls = list(self.controls)
        other.rows = {talk: list(row) for talk, row in self.rows.items()}
        other.turn = self.turn
        return other
