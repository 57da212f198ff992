"""The refusals: one error for each kind of thing that is none."""


class WebError(ValueError):
    """Any refusal."""


class NoWeb(WebError):
    """What was handed in is no web."""


class NoPart(WebError):
    """What was handed in is no part of the web, or no place of the part."""


class NoLaying(WebError):
    """What was handed in is no laying of the web."""


class NoMeasure(WebError):
    """What was handed in is no measure."""


class NoRoad(WebError):
    """One of the roads is none or can't be gone; number says which, None where there are no roads."""

    def __init__(self, number=None):
        WebError.__init__(self, "no road that can be gone")
        self.number = number


class NoSize(WebError):
    """What was handed in is no such number of places."""


class NoArrows(WebError):
    """What was handed in is no web of arrows."""


class NoThread(WebError):
    """What was handed in is no thread, or one too many."""


class NoNumber(WebError):
    """What was handed in is no number of a thread that lies there."""


class NoText(WebError):
    """A text is not written as it must be; part says at which piece, None where it is no text."""

    def __init__(self, part=None):
        WebError.__init__(self, "not written as it must be")
        self.part = part


class NoCall(WebError):
    """The desk was told what is no row; row is what it was told."""

    def __init__(self, row=None):
        WebError.__init__(self, "no row that the desk knows")
        self.row = row


class NoKept(WebError):
    """No web is kept by this name."""

    def __init__(self, name=None):
        WebError.__init__(self, "no web is kept by this name")
        self.name = name
