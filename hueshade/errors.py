"""The refusals of the program, each with its name in small letters as its word.

The word is set on the objects, as error classes hold no values of their own.
"""


class ShadeError(ValueError):
    """What is handed in is not as it must be."""


class BadPlace(ShadeError):
    """A number of a place is beyond FAR."""

    def __init__(self, why="no such place"):
        super().__init__(why)
        self.word = "badplace"


class BadLight(ShadeError):
    """A colour of a light is beyond its bounds."""

    def __init__(self, why="no such light"):
        super().__init__(why)
        self.word = "badlight"


class BadSift(ShadeError):
    """A text is none of SIFTS."""

    def __init__(self, why="no such sift"):
        super().__init__(why)
        self.word = "badsift"


class BadBlock(ShadeError):
    """A block's left or low is greater than its right or high."""

    def __init__(self, why="no such block"):
        super().__init__(why)
        self.word = "badblock"


class BadPiece(ShadeError):
    """A piece has the same place twice where two unlike ones are due."""

    def __init__(self, why="no such piece"):
        super().__init__(why)
        self.word = "badpiece"


class BadMenu(ShadeError):
    """A menu of choices or of lamps is too short, too long or has the same twice."""

    def __init__(self, why="no such menu"):
        super().__init__(why)
        self.word = "badmenu"


class BadChoice(ShadeError):
    """A number is no place in the choices of a lamp."""

    def __init__(self, why="no such choice"):
        super().__init__(why)
        self.word = "badchoice"


class BadSetting(ShadeError):
    """A setting has another length or a number that is no place."""

    def __init__(self, why="no such setting"):
        super().__init__(why)
        self.word = "badsetting"


class BadSort(ShadeError):
    """A text is none of the sorts of things."""

    def __init__(self, why="no such sort"):
        super().__init__(why)
        self.word = "badsort"


class BadDeed(ShadeError):
    """A deed has another form than told."""

    def __init__(self, why="no such deed"):
        super().__init__(why)
        self.word = "baddeed"


class BadView(ShadeError):
    """A view, or how many there are, is beyond its bounds."""

    def __init__(self, why="no such view"):
        super().__init__(why)
        self.word = "badview"


class BadWish(ShadeError):
    """A wish has too few or too many wants."""

    def __init__(self, why="no such wish"):
        super().__init__(why)
        self.word = "badwish"


class BadText(ShadeError):
    """A text isn't written as told; row is the number, from 0 on, of the first row that isn't."""

    def __init__(self, row=0):
        super().__init__(f"row {row} is not so written")
        self.word = "badtext"
        self.row = row


class Nought(ShadeError):
    """A fraction's bottom is 0."""

    def __init__(self, why="a bottom of 0"):
        super().__init__(why)
        self.word = "nought"


class Unknown(ShadeError):
    """An open lamp stands where the light is asked without a setting."""

    def __init__(self, why="an open lamp stands"):
        super().__init__(why)
        self.word = "unknown"


class Missing(LookupError):
    """What is asked for is not there."""


class NoThing(Missing):
    """No thing of this kind stands by this number."""

    def __init__(self, kind, number):
        super().__init__(f"no {kind} stands by the number {number}")
        self.word = "nothing"
        self.kind = kind
        self.number = number


class NoLook(Missing):
    """No look stands by this number."""

    def __init__(self, number):
        super().__init__(f"no look stands by the number {number}")
        self.word = "nolook"
        self.number = number


class NothingLeft(Missing):
    """There is no deed to undo or to do again."""

    def __init__(self, why="no deed is left"):
        super().__init__(why)
        self.word = "nothingleft"


class Crowded(RuntimeError):
    """There is no room for what is asked, or something holds it."""


class Full(Crowded):
    """No more of this sort have room."""

    def __init__(self, why="no more have room"):
        super().__init__(why)
        self.word = "full"


class Looked(Crowded):
    """A look that stands, the one of this number, speaks of the lamp."""

    def __init__(self, number):
        super().__init__(f"look {number} speaks of it")
        self.word = "looked"
        self.number = number


class TooMany(Crowded):
    """There are more ways than are gone through."""

    def __init__(self, why="there are too many"):
        super().__init__(why)
        self.word = "toomany"
