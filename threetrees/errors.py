"""The refusals: one base, and straight under it one class for each of them."""


class TreesError(ValueError):
    pass


# The values go to the base as they are, so that a copy of a refusal can be made anew of them.
class NoDrawing(TreesError):
    def __init__(self, word, at):
        TreesError.__init__(self, word, at)
        self.word = word
        self.at = at


class NoRows(TreesError):
    def __init__(self, word, at):
        TreesError.__init__(self, word, at)
        self.word = word
        self.at = at


class NoText(TreesError):
    def __init__(self, at):
        TreesError.__init__(self, at)
        self.at = at


class Tied(TreesError):
    def __init__(self, pair):
        TreesError.__init__(self, pair)
        self.pair = pair


class NoArrows(TreesError):
    def __init__(self, why):
        TreesError.__init__(self, why)
        self.why = why


class NoLand(TreesError):
    pass


class NoPlace(TreesError):
    pass


class NoTie(TreesError):
    pass


class NoRing(TreesError):
    pass


class TooMany(TreesError):
    pass


class NoLine(TreesError):
    pass


class NothingDone(TreesError):
    pass
