"""The shelf: three drawers of text rows, and the strokes that were made on them."""


def copy_of(drawers):
    return [list(rows) for rows in drawers]


def do_stroke(drawers, drawer, text):
    """Puts the text at the drawer's end; None clears the drawer."""
    if text is None:
        drawers[drawer] = []
    else:
        drawers[drawer].append(text)


class Shelf:
    def __init__(self):
        self.first_drawers = [[], [], []]
        self.drawers = [[], [], []]
        self.stroke_list = []

    def stroke(self, drawer, text):
        self.stroke_list.append((drawer, text))
        do_stroke(self.drawers, drawer, text)

    def put(self, drawer, text):
        self.stroke(drawer, text)

    def clear(self, drawer):
        self.stroke(drawer, None)

    def rows(self, drawer):
        return list(self.drawers[drawer])

    def strokes(self):
        return list(self.stroke_list)

    def fallen(self, many, signs):
        drawers = copy_of(self.first_drawers)
        for drawer, text in self.stroke_list[:many]:
            do_stroke(drawers, drawer, text)
        for drawer, text in self.stroke_list[many:many + 1]:
            # A clearing is done whole or not at all, and of a text without signs there is no row.
            if text is not None and text[:signs] != "":
                do_stroke(drawers, drawer, text[:signs])
        fell = Shelf()
        fell.first_drawers = drawers
        fell.drawers = copy_of(drawers)
        return fell
