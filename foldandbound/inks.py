"""Inks on printing plates (part 25)."""

from foldandbound.orders import lays_for


def inks_on(plate, inks):
    """Return the ascending list of the inks that the pages of a plate need."""
    return sorted({ink for row in plate for page, _ in row for ink in inks.get(page, ())})


def plates_needed(lay, inks):
    """Return the number of printing plates for both sides of a lay."""
    return sum([len(inks_on(plate, inks)) for plate in lay])


def inks_of_job(job, plates, inks):
    """Return the number of printing plates for all plates that a job book prints, each once."""
    words = {step[2]: True for step in job if step[0] == "print"}
    return sum([len(inks_on(plates[word], inks)) for word in words if word in plates])


def best_lay(size, n, inks):
    """Return the first lay of a sheet for n pages with the fewest printing plates."""
    return min(lays_for(size, n), key=lambda lay: plates_needed(lay, inks))


def fewest_plates(size, n, inks):
    """Return the fewest printing plates of a lay of a sheet for n pages."""
    return plates_needed(best_lay(size, n, inks), inks)


def sides_with(lay, inks, ink):
    """Return the number of the sides of a lay on which an ink is needed."""
    return sum([1 for plate in lay if ink in inks_on(plate, inks)])


def least_pages(size, n, inks, ink):
    """Return the fewest sides on which an ink is needed, of all lays of a sheet for n pages."""
    return min([sides_with(lay, inks, ink) for lay in lays_for(size, n)])
