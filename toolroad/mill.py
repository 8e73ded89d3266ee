"""A mill: it does a program's way, entry by entry, is left and taken up, and lends itself with its tool lifted."""

from toolroad.errors import Away, Lifted
from toolroad.places import ORIGIN, place_text
from toolroad.roads import Road, run_program
from toolroad.states import State
from toolroad.ways import way_of


def step_text(step):
    """What the log tells of a step."""
    end = place_text(step[2])
    if step[0] != "arc":
        return f"{step[0]} {end}"
    side = "left" if step[4] == 1 else "right"
    return f"{side} {place_text(step[3])} {end}"


class Mill:
    """A mill with a program, ahead of the first entry of its way."""

    def __init__(self, text):
        running = run_program(text)
        self.stood = running.stood
        self.way = way_of(Road(running.made))
        self.many_done = 0
        self.is_left = False
        self.is_lifted = False
        self.texts = []

    def __len__(self):
        return len(self.way[self.many_done:])

    def look_whether_free(self):
        """Refuse to be told anything while a deed has the tool lifted."""
        if self.is_lifted:
            raise Lifted("the tool is lifted")

    def look_whether_here(self):
        """Refuse to go on while the mill is left."""
        if self.is_left:
            raise Away("the mill is left")

    def do(self, many=1):
        """Do so many entries, or as many as are left; how many it did."""
        self.look_whether_free()
        self.look_whether_here()
        doing = self.way[self.many_done:self.many_done + many]
        self.texts.extend([step_text(entry[0]) for entry in doing])
        self.many_done += len(doing)
        return len(doing)

    def done(self):
        """How many entries are done."""
        return self.many_done

    def place_in_way(self):
        """Where the tool is but for the mill being left."""
        return self.way[self.many_done - 1][0][2] if self.many_done > 0 else ORIGIN

    def spot(self):
        """Where the tool is."""
        return ORIGIN if self.is_left else self.place_in_way()

    def is_down(self):
        """Whether the tool is down."""
        if self.is_lifted or self.is_left or self.many_done == 0:
            return False
        return self.way[self.many_done - 1][0][0] != "hop"

    def state(self):
        """The state ahead of the step that leads the next entry."""
        values = self.stood[-1]
        if self.many_done < len(self.way):
            values = self.stood[self.way[self.many_done][2]]
        return State(*values)

    def log(self):
        """A text for each thing that was done."""
        return list(self.texts)

    def leave(self):
        """Lift the tool and go away."""
        self.look_whether_free()
        self.look_whether_here()
        self.is_left = True
        self.texts.append(step_text(("hop", None, ORIGIN)))

    def take_up(self):
        """Come back to where the tool was."""
        self.look_whether_free()
        if not self.is_left:
            raise Away("the mill isn't left")
        self.is_left = False
        self.texts.append(step_text(("hop", ORIGIN, self.place_in_way())))

    def lifted(self, deed):
        """Call a deed with the mill while the tool is lifted; what it tells."""
        before = self.is_lifted
        self.is_lifted = True
        try:
            return deed(self)
        finally:
            self.is_lifted = before
