"""All errors of the package: each one keeps what it is about as its value."""


class TakenError(ValueError):
    """The error from which all others derive."""

    def __init__(self, value):
        self.value = value


class BadCourt(TakenError):
    """A text is not that of a court; value is the number of the line that cannot stand."""


class NoPlace(TakenError):
    """value is not the name of a place of the court."""


class NoPlayer(TakenError):
    """value is not the name of a player of the court."""


class Same(TakenError):
    """Two unlike players are wanted; value is the one player."""


class BadTicks(TakenError):
    """value is not an integer from 0 to 99."""


class NoWay(TakenError):
    """No way joins the two places; value is both."""


class BadLength(TakenError):
    """value is not an integer from 1 to 99."""


class BadStretch(TakenError):
    """value is not a pair of fractions that a stretch line may tell."""


class BadPlay(TakenError):
    """A text is not that of a play; value is the number of the line that cannot stand."""


class NoBall(TakenError):
    """value is not the name of a ball of the court."""


class BadTick(TakenError):
    """value is not a tick."""


class BadStrike(TakenError):
    """value does not have the form of a strike."""


class CannotStand(TakenError):
    """value is a strike that cannot stand in the play."""


class BadNumbers(TakenError):
    """value is not an ascending tuple of numbers of strikes."""


class Unlike(TakenError):
    """Two plays have unlike courts; value is None."""


class BadRing(TakenError):
    """value is not a ring of players."""


class BadLags(TakenError):
    """value is not a row of lags."""


class Ring(TakenError):
    """There are no lags; value is a ring of players whose need is above 0."""


class WrongLags(TakenError):
    """A row of lags is not right; value is None."""


class BadField(TakenError):
    """value is not a field."""


class BadSpot(TakenError):
    """value is not a spot of the court."""


class BadTime(TakenError):
    """value is not a time."""


class Steep(TakenError):
    """A field changes too much over a way; value is its two places."""


class BadFields(TakenError):
    """value is not one field for each player."""


class NoFault(TakenError):
    """There is no fault; value is None."""


class BadLetter(TakenError):
    """value does not have the form of a letter."""


class Clash(TakenError):
    """value is a letter that cannot be true beside those that are held."""


class WrongFields(TakenError):
    """Some field is not right for its player; value is None."""


class NotSeen(TakenError):
    """value is a ball that the player does not see where it could be struck."""


class BadCourse(TakenError):
    """value is not a course from this place."""


class BadDeed(TakenError):
    """value does not have the form of a deed."""


class Full(TakenError):
    """No more strikes can be done; value is how many were."""


class NoLetter(TakenError):
    """value is not the number of a letter in the bag."""


class BadFraction(TakenError):
    """value is not a fraction."""


class BadFactor(TakenError):
    """value is a fraction below 0."""


class BadOffsets(TakenError):
    """value is not one fraction for each player."""


class BadNeeds(TakenError):
    """value is not a row of measured needs of the court."""


class BadDelays(TakenError):
    """value is not one delay of a watcher for each player."""


class BadScript(TakenError):
    """A text is not that of a script; value is the number of the line that is wrong."""


class BadLine(TakenError):
    """value does not have the form of a line of a script."""


class BadLines(TakenError):
    """value is not a tuple of lines of a script."""


class NothingToUndo(TakenError):
    """No line stands; value is None."""


class NothingToRedo(TakenError):
    """No line was taken back; value is None."""


class BadJournal(TakenError):
    """A text is not a journal; value is the number of the line that is wrong."""
