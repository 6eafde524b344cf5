"""A walk round the wheel, by the steps of a web."""

from stepwebs.checks import check_web, is_number
from stepwebs.errors import BadStep, NoStep


class Wheel:
    """Somebody who goes round by the steps of a web, in the hall 0 at first."""

    def __init__(self, web):
        check_web(web)
        self._web = web
        self._steps = []
        self._path = [0]

    def go(self, step):
        """Go so many halls on."""
        halls, steps = self._web
        # True is equal to 1, but it is no step.
        if not is_number(step, 1, halls - 1) or step not in steps:
            raise BadStep("no step of the web")
        self._steps.append(step)
        self._path.append((self._path[-1] + step) % halls)

    def undo(self):
        """Take the last step back."""
        if len(self._steps) == 0:
            raise NoStep("no step to take back")
        self._steps.pop()
        self._path.pop()

    @property
    def steps(self):
        """The steps gone."""
        return tuple(self._steps)

    @property
    def path(self):
        """The halls come through, the first one and the last one among them."""
        return tuple(self._path)

    @property
    def hall(self):
        """The last hall."""
        return self._path[-1]
