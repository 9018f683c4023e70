"""The errors of the package; each one stands directly under PairError."""


class PairError(ValueError):
    """Any error that the package raises."""


class InvalidWeb(PairError):
    """The value is no web."""


class InvalidPairing(PairError):
    """The value is no pairing of the web."""


class InvalidTie(PairError):
    """The value is no tie of the web."""


class InvalidPlace(PairError):
    """The value is no place of the web, or the same one again."""


class InvalidLot(PairError):
    """The value is no lot of places of the web."""


class InvalidRow(PairError):
    """The value is no row of the kind that is wanted."""


class InvalidCount(PairError):
    """The value is no number of the kind that is wanted."""


class InvalidTies(PairError):
    """The value is no ascending tuple of ties of the web."""


class InvalidEars(PairError):
    """The value is no building of the web."""


class InvalidSwitch(PairError):
    """The value is no switch of the pairing."""


class InvalidShares(PairError):
    """The value is no tuple of shares of the ties of the web."""


class InvalidWeights(PairError):
    """The value is no tuple of weights, or no worth."""


class InvalidPricing(PairError):
    """The value is no pricing for the weights."""


class InvalidWalk(PairError):
    """The value is no walk of the web."""


class InvalidCommand(PairError):
    """The value is no command of the console."""


class NotShort(PairError):
    """The lot is no short lot."""


class Refused(PairError):
    """The deed cannot be done."""


class NothingToUndo(PairError):
    """No deed is there that may be taken back."""


class NoSpan(PairError):
    """No span is open."""


class NotReady(PairError):
    """No live web stands where one is wanted."""


class InvalidText(PairError):
    """The text goes wrong, or ends, behind its first index characters."""

    def __init__(self, index):
        super().__init__("the text goes wrong, or ends too early, at the index")
        self.index = index


class InvalidDeeds(PairError):
    """The deeds go wrong at the index."""

    def __init__(self, index):
        super().__init__("the deeds go wrong at the index")
        self.index = index


class TooMany(PairError):
    """There would be more than the count that is allowed."""

    def __init__(self, count):
        super().__init__("there are more than the count")
        self.count = count


class NotGreatest(PairError):
    """The pairing is not greatest, as a longer row of it shows."""

    def __init__(self, row):
        super().__init__("the pairing has a longer row")
        self.row = row


class NotFull(PairError):
    """The web has no full pairing, as the excess of a lot shows."""

    def __init__(self, lot):
        super().__init__("the web has no full pairing, as the excess of the lot shows")
        self.lot = lot


class NotBuilt(PairError):
    """The web is not near-full, as a hindrance shows."""

    def __init__(self, lot):
        super().__init__("the web is not near-full, as the lot shows")
        self.lot = lot


class NotCovered(PairError):
    """The web is not covered; the tie is its first idle one, or ()."""

    def __init__(self, tie):
        super().__init__("the web is not covered")
        self.tie = tie


class NotBarrier(PairError):
    """The lot is no barrier, as its excess shows."""

    def __init__(self, excess):
        super().__init__("the lot is no barrier, as its excess shows")
        self.excess = excess


class NotTwoSided(PairError):
    """The web is not two-sided, as an odd round shows."""

    def __init__(self, odd_round):
        super().__init__("the web is not two-sided, as the odd round shows")
        self.odd_round = odd_round


class NotMixture(PairError):
    """The shares have no mixture, as an odd lot shows."""

    def __init__(self, lot):
        super().__init__("the shares have no mixture, as the lot shows")
        self.lot = lot


class NotNearFull(PairError):
    """The lot cannot be paired whole without the place."""

    def __init__(self, place):
        super().__init__("the lot cannot be paired whole without the place")
        self.place = place


class NotMeeting(PairError):
    """So many more places are alone than the excess of the lot."""

    def __init__(self, count):
        super().__init__("more places are alone than the excess of the lot")
        self.count = count
