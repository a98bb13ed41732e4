"""The errors of Wattkeep, all under WattError."""


class WattError(ValueError):
    """What every error of Wattkeep is."""


class BadNumber(WattError):
    """A number that is not as it must be."""


class BadTable(WattError):
    """A value that is no table, or right sides that do not fit one."""


class BadGrid(WattError):
    """A value that is no grid."""


class BadName(WattError):
    """A value that is no name of what it must name."""


class BadInjections(WattError):
    """A value that is no injections, or nodes between which nothing can be sent."""


class BadProgram(WattError):
    """A value that is no program."""


class BadPlan(WattError):
    """A value that is no plan, or a paper that does not fit."""


class BadHours(WattError):
    """Needs of hours, ramps or lows that are not as they must be."""


class BadStores(WattError):
    """A value that is no stores."""


class BadMeters(WattError):
    """Readings, or their weights, that are not as they must be."""


class BadStarts(WattError):
    """A value that is no starts."""


class BadOffers(WattError):
    """A value that is no offers."""


class Bridge(WattError):
    """A line that may not fall, since its island parts without it."""


class NothingDone(WattError):
    """There is no event that could be taken back."""


class BadLine(WattError):
    """A text in which a word cannot stand; line and word are counted from 1."""

    def __init__(self, line, word):
        super().__init__(f"line {line}, word {word}")
        self.line = line
        self.word = word
