"""The refusals of the program, each a class straight under CodeError."""


class CodeError(ValueError):
    """What stands above every refusal."""


class Worn(CodeError):
    """A button can't go further: its counts or its ages are used up."""


class Known(CodeError):
    """There is one of that name already."""


class Full(CodeError):
    """A door knows as many buttons as it may."""


class Unknown(CodeError):
    """There is none of that name, or of that age."""


class TooMany(CodeError):
    """There are as many keys as there may be."""


class BadPress(CodeError):
    """A press isn't right; its field place tells which one."""

    def __init__(self, place):
        CodeError.__init__(self, f"no right press at {place}")
        self.place = place


class BadLog(CodeError):
    """A log can't be done again; its field row tells from where on."""

    def __init__(self, row):
        CodeError.__init__(self, f"the log fails at row {row}")
        self.row = row


class BadRow(CodeError):
    """A sheet isn't well written; its field row tells where."""

    def __init__(self, row):
        CodeError.__init__(self, f"the sheet is wrong at row {row}")
        self.row = row
