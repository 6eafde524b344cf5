"""The errors of the package."""


class WebError(ValueError):
    """The base class of all errors of the package."""


class BadWeb(WebError):
    """A value is no web; part is "whole", "halls" or "steps"."""

    def __init__(self, part):
        self.part = part


class BadNet(WebError):
    """A value is no net; part is "whole", "halls" or "ways"."""

    def __init__(self, part):
        self.part = part


class BadNumber(WebError):
    """A value is no integer of the range, or not of the sort, that is asked for."""


class NotPrime(WebError):
    """A number of halls is no prime."""


class Unlike(WebError):
    """Two webs or two nets have unlike numbers of halls."""


class BadStep(WebError):
    """A value is no step of the web."""


class NoStep(WebError):
    """There is no step to take back."""


class BadText(WebError):
    """A value that should be a text is no string."""


class BadLine(WebError):
    """A text tells no web; line and word, counted from 1, say where."""

    def __init__(self, line, word):
        self.line = line
        self.word = word
