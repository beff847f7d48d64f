"""The errors of the package: all stand under Refused, none of the others under another one."""


class Refused(ValueError):
    """A call was refused; what tells which value, or where it is wrong, and word is the name of the class."""

    def __init__(self, what):
        self.what = what
        self.word = self.__class__.__name__


class BadShape(Refused):
    """A value is no shape."""


class BadCell(Refused):
    """A value is no cell, or a row of cells has not the due form."""


class BadStory(Refused):
    """A value is no story."""


class Clash(Refused):
    """Two stories clash behind a loss, so a shape does not stand."""


class TwoWorlds(Refused):
    """Two stories that clash leave one and the same row."""


class BadRow(Refused):
    """There is no such row."""


class BadShelf(Refused):
    """There is no such shelf, or shelves have not the due form."""


class NotLost(Refused):
    """A shelf is not lost."""


class BadAddress(Refused):
    """There is no such address."""


class BadOrder(Refused):
    """A value is no order of writes."""


class NotSound(Refused):
    """Cells hold no sound store."""


class Loop(Refused):
    """A path leads through too many signposts."""


class NoThing(Refused):
    """A path leads to nothing."""


class NotFolder(Refused):
    """Something is no folder where a folder is due."""


class There(Refused):
    """Something is there already."""


class BadPath(Refused):
    """A value is no path."""


class BadRange(Refused):
    """A value is no place or length in a file."""


class BadWords(Refused):
    """Values are no words of a file."""


class BadSize(Refused):
    """A value is no size of a file."""


class BadName(Refused):
    """A value is no name."""


class BadLimit(Refused):
    """A value is no limit."""


class TooMany(Refused):
    """There would be too many of something."""


class TooLong(Refused):
    """A content would have too many words."""


class OverLimit(Refused):
    """A folder would have more words than its limit."""


class NoRoom(Refused):
    """There are not enough free addresses."""


class NotFile(Refused):
    """Something is no file where a file is due."""


class Top(Refused):
    """The topmost folder cannot be dropped or moved."""


class NotEmpty(Refused):
    """A folder still has entries."""


class Within(Refused):
    """A folder cannot be moved into itself."""


class HasSnapshot(Refused):
    """There is a snapshot of this name already."""


class NoSnapshot(Refused):
    """There is no snapshot of this name."""


class NotSignpost(Refused):
    """Something is no signpost where a signpost is due."""


class BadText(Refused):
    """A text is not one that tells an array."""


class TooManyLost(Refused):
    """Too many shelves would not be kept."""


class Torn(Refused):
    """A row is not whole."""


class Unlike(Refused):
    """A filling shelf has not the cell that is told."""


class NotBlank(Refused):
    """A cell is not nought where nought is due."""


class NotSo(Refused):
    """A condition of the question does not hold."""


class BadNumber(Refused):
    """A number is not in its range."""


class BadGround(Refused):
    """An array cannot carry a store of files."""


class Spoilt(Refused):
    """A row tells nothing."""


class Unwhole(Refused):
    """A row has to be mended before it is looked at."""


class BadWrite(Refused):
    """A value is no write."""


class BadCode(Refused):
    """A value is no code."""


class BadStop(Refused):
    """A value tells no stop."""


class BadCells(Refused):
    """Values are not the cells of a shelf."""


class BadColumn(Refused):
    """Values are not a column or a row of the table."""


class New(Refused):
    """There is a new shelf."""


class NoNew(Refused):
    """There is no new shelf."""


class NotStanding(Refused):
    """A shape does not stand."""


class OnlyOne(Refused):
    """There is only one data shelf."""


class NotKept(Refused):
    """A shelf is not kept."""


class NoSum(Refused):
    """There is no sum to take away."""


class TooFew(Refused):
    """Too few shelves are kept to tell data apart."""
