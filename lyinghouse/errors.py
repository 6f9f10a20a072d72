"""The errors of the package."""


class HouseError(ValueError):
    """The base of all errors: each keeps its only argument as value."""

    def __init__(self, value):
        self.value = value


class BadValue(HouseError):
    """It is no value, or none that can be taken here."""


class BadText(HouseError):
    """It is not the text that is asked for."""


class BadValues(HouseError):
    """It is no tuple of values."""


class BadDeed(HouseError):
    """It is no deed."""


class BadPath(HouseError):
    """It is no path, or has the parts of none."""


class NoFile(HouseError):
    """No file is at this path."""


class BadDeeds(HouseError):
    """It is no tuple of deeds."""


class BadTree(HouseError):
    """The text is that of no tree, from the line with this number on."""


class BadName(HouseError):
    """It is no name as it is asked for."""


class BadNumber(HouseError):
    """It is no integer as it is asked for."""


class BadSeal(HouseError):
    """It is not the seal of a block."""


class OtherBody(HouseError):
    """The block with this name has another body."""


class NoBlock(HouseError):
    """The block with this name is not there."""


class BadRoot(HouseError):
    """It is no root."""


class BadKey(HouseError):
    """It is no key of a map."""


class BadMap(HouseError):
    """The block with this name is no part of a map."""


class NoKey(HouseError):
    """The map does not have this key."""


class BadRows(HouseError):
    """They are no rows as they are asked for."""


class BadFile(HouseError):
    """The block with this name is no part of a file."""


class Beyond(HouseError):
    """The place is beyond the file, which has this length."""


class TooLong(HouseError):
    """The text would have more signs than this."""


class BadImage(HouseError):
    """It is no image of a disc."""


class BadSteps(HouseError):
    """The part of the steps with this number cannot stand there."""


class BadChoices(HouseError):
    """They are no choices for the open writes."""


class TooFull(HouseError):
    """The disc, with so many sectors, has not room enough."""


class BadNames(HouseError):
    """They are no names of desks."""


class BadPast(HouseError):
    """It is no past."""


class BadCounts(HouseError):
    """They are no counts as they are asked for."""


class NoRow(HouseError):
    """There is no row with these counts."""


class NoDesk(HouseError):
    """It is the name of no desk."""


class NotOwn(HouseError):
    """The desk has made so many things, another number than its own count."""


class TooMany(HouseError):
    """There are so many made things already."""


class Cheated(HouseError):
    """The desk is cheated."""


class Busy(HouseError):
    """Something is being done: this."""


class NotOpen(HouseError):
    """No deed is open that this could be an answer to."""


class BadRoots(HouseError):
    """It is no tuple of roots."""


class Full(HouseError):
    """The tree would have so many entries."""


class BadTellings(HouseError):
    """They are no tellings."""


class Never(HouseError):
    """No house can have brought about what was told."""


class BadEvents(HouseError):
    """The event with this number cannot stand there."""


class BadRule(HouseError):
    """It is no rule."""


class BadLine(HouseError):
    """It is no line of a shell."""


class NotBusy(HouseError):
    """No line is being worked through that this could be an answer for."""


class BadAnswer(HouseError):
    """It has not the form of an answer to the deed that is wanted."""


class BadDay(HouseError):
    """The text is no script, from the line with this number on."""


class DayOver(HouseError):
    """All lines of the day, so many, are done."""


class NoName(HouseError):
    """Nothing with this name is there."""
