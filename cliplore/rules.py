"""Rules, which are stages one behind the other, and how their written forms are read (points 15 to 19)."""

from cliplore.errors import BadRule, BadStage, BadWord, Mixed
from cliplore.signs import copy_of
from cliplore.stages import read_stage

_KEEP = "keep"


class Rule:
    """A list of at most MOST stages, of which each is given what the one before it wrote."""

    MOST = 4

    def __init__(self, alphabet, *stages):
        if len(stages) > self.MOST:
            raise BadRule(self.MOST + 1, "count")
        if any([stage.alphabet != alphabet for stage in stages]):
            raise Mixed()
        self.alphabet = copy_of(alphabet)
        self.stages = stages

    @classmethod
    def read(cls, alphabet, text):
        """The rule with this written form."""
        if text == _KEEP:
            return cls(alphabet)
        stages = []
        for number, piece in enumerate(text.split("; "), start=1):
            # Before the piece is read: a fifth piece is wrong in this way, whatever it says.
            if number > cls.MOST:
                raise BadRule(number, "count")
            stages.append(read_piece(alphabet, number, piece))
        return cls(alphabet, *stages)

    def __eq__(self, other):
        return isinstance(other, Rule) and self.alphabet == other.alphabet and self.text() == other.text()

    def __add__(self, other):
        if self.alphabet != other.alphabet:
            raise Mixed()
        return Rule(self.alphabet, *self.stages, *other.stages)

    def __len__(self):
        return len(self.stages)

    def __str__(self):
        return str(self.text())

    def __repr__(self):
        return f"Rule({self.text()!r})"

    def __call__(self, word):
        return self.trace(word)[-1]

    def text(self):
        """The written form."""
        if len(self.stages) == 0:
            return _KEEP
        return "; ".join([stage.text() for stage in self.stages])

    def trace(self, word):
        """The word and the results of all stages in order."""
        if not self.alphabet.is_word(word):
            raise BadWord(word)
        results = [word]
        for stage in self.stages:
            results.append(stage(results[-1]))
        return results

    def start(self):
        """The state before the first sign: the states of all stages."""
        return tuple([stage.start() for stage in self.stages])

    def step(self, state, sign):
        """The state after the sign, and the text written."""
        states = []
        text = sign
        for stage, before in zip(self.stages, state):
            after, text = _feed(stage, before, text)
            states.append(after)
        return tuple(states), text

    def end(self, state):
        """The text written when the word ends."""
        text = ""
        for stage, before in zip(self.stages, state):
            after, written = _feed(stage, before, text)
            text = written + stage.end(after)
        return text


def _feed(stage, state, text):
    """The state of the stage after this piece of its word, and what it writes."""
    written = []
    for sign in text:
        state, piece = stage.step(state, sign)
        written.append(piece)
    return state, "".join(written)


def read_piece(alphabet, number, piece):
    """The stage with this written form, which is the piece of this number."""
    try:
        return read_stage(alphabet, piece)
    except BadStage as error:
        raise BadRule(number, error.what) from error
