"""The interface of the document: each name in its file, with its arguments."""

import importlib
import inspect
import unittest

from foldandbound import console, errors, shop
from tests.support import ShopCase

FUNCTIONS = {
    "sheets": """is_size(value) is_plate(size, value) is_lay(size, value) panels(size) side_up(way)
        after_turn(way, motion) face_of(lay, panel, side) turned_lay(lay, motion) spun(plate)""",
    "folding": """is_stack(value) is_fold(value) is_full(size, folds) flat(number, size) turned(stack, motion)
        folded(stack, fold) all_folded(size, folds) creases(size, folds)""",
    "reading": """faces_of(pile) reading(lays, pile) is_right(faces, n) first_wrong(faces, n) laying(size, folds, n)
        alike_folds(size, first, second) motion_between(size, first, second)""",
    "orders": """order_of(size, folds) is_order(size, value) folds_to(size, order) orders(size) fewest_folds(size)
        lays_for(size, n)""",
    "strips": """is_strip(value) shown(order, kinds) by_simple(order) crossing(order) strip_orders(n) grown(order)
        kinds_of(order)""",
    "sections": """best_sections(n, sizes) nested_pages(s) creep(s, t, width, most) place_of_page(sizes, page)""",
    "oneplate": """both_sides(plate, motion) halves(plate, motion) plate_for(lay, motion) one_plate(lay, motion)""",
    "jobs": """is_job(value) run_job(job) makes(job) printed(job, plates) plates_of(job, n)""",
    "jobways": """alike_jobs(first, second) check_way(job, face, value) parting(first, second) needless_steps(job)
        way_of(job, face) without_step(job, k)""",
    "layouts": """is_layout(value) check_cutting(layout, value) can_be_cut(layout) cutting_paper(layout)
        fewest_cuts(layout) pieces_from(board, tree)""",
    "tables": """value_table(kinds, turning, board) best_plan(kinds, turning, board)
        check_table(kinds, turning, board, value) check_plan(kinds, turning, board, value)
        most_pieces(width, height, turning, board) sheets_for(kinds, turning, board, numbers)""",
    "pilecuts": """fewest_steps(n) fewest_sheet_steps(rows, columns) steps_for(n) parted(n, steps)
        check_steps(n, value)""",
    "labels": """is_printing(labels, slots, value) fewest_sheets(labels, slots, plates)
        best_printing(labels, slots, plates) least_plates(labels, slots) spare(labels, printing)""",
    "flows": """is_flow(value) check_safe(flow, supply, wanted, value) comes_out(flow, supply, course)
        safe_paper(flow, supply, wanted) least_supply(flow, wanted)""",
    "press": """is_orders(value) check_kept(orders, sequence, times, minutes, value)
        check_sequence(orders, times, minutes, value) ends(orders, sequence) ends_with(orders, sequence, failures)
        kept_paper(orders, sequence, times, minutes) sequence_paper(orders, times, minutes) by_due(orders)
        most_failures(orders, sequence, minutes)""",
    "stages": """makespan(jobs, sequence) least_makespan(jobs) washed(inks, washing, sequence)
        least_washing(inks, washing) best_sequence(jobs) washing_sequence(inks, washing)""",
    "counters": """is_counters(n, value) check_counts(n, bounds, value) told_bounds(told, wrong)
        counts_paper(n, bounds) ranges(n, bounds) needless_bounds(n, bounds) tightest(n, bounds)
        least_error(n, bounds, told)""",
    "costs": """shares(total, weights) price(bands, copies) cheapest(offers, copies)""",
    "lines": """best_lines(widths, width) badness(widths, width, lines)""",
    "logs": """is_log(value) holds(log, name) anew(log, page) spoilt_by(log, page)""",
    "colours": """less_colour(tint, part) within_total(tint, most) tint_of(red, green, blue)""",
    "grids": """is_grid(value) spread(grid, k) shrunk(grid, k) moved_grid(grid, down, right)
        traps(drawn_ground, drawn_figure, ground, figure, k) least_spread(drawn_ground, drawn_figure, ground, k)""",
    "texts": """write_job(job) write_plate(plate) write_layout(layout) write_flow(flow) read_job(text)
        read_layout(text) read_plate(text) read_flow(text)""",
    "handlings": """is_handling(value) handled(stack, handling) handlings_to(size, pile) piles_of(size)
        most_handlings(size) job_of(size, prints, handlings)""",
    "inks": """inks_on(plate, inks) plates_needed(lay, inks) inks_of_job(job, plates, inks)
        fewest_plates(size, n, inks) least_pages(size, n, inks, ink) best_lay(size, n, inks)""",
    "reels": """is_reel_plan(length, widths, numbers, value) check_reel_table(length, widths, numbers, value)
        reel_table(length, widths, numbers) best_reel_plan(length, widths, numbers)
        fewest_reels(length, widths, numbers) least_waste(length, widths, numbers)""",
    "days": """is_day(value) check_day(day, value) can_be_held(day) day_paper(day) most_failures_held(day)
        least_hours(day)""",
}
METHODS = {
    shop.Shop: """set_job(word, job) set_plate(word, plate) set_flow(word, flow) drop(kind, word)
        take(word, job, flow, copies, due) finish(word, course) cancel(word) deliver(word, sheets) stock() names(kind)
        thing(kind, word) open_orders() done_orders() book_of(word) undo()""",
    console.Console: "enter(line)",
}


def told(text):
    """The pairs of a name and the list of its arguments in a text."""
    for part in " ".join(text.split()).split(") "):
        name, _, arguments = part.rstrip(")").partition("(")
        yield name, [argument for argument in arguments.split(", ") if argument]


class TestInterface(ShopCase):
    def test_functions(self):
        for file, text in FUNCTIONS.items():
            module = importlib.import_module("foldandbound." + file)
            for name, arguments in told(text):
                function = getattr(module, name)
                self.assertTrue(inspect.isfunction(function), name)
                self.same(function.__module__, module.__name__)
                self.same(function.__name__, name)
                self.same(list(inspect.signature(function).parameters), arguments)

    def test_classes(self):
        for kind, file, arguments in ((shop.Shop, "shop", ["stock"]), (console.Console, "console", [])):
            self.same(kind.__module__, "foldandbound." + file)
            self.same(list(inspect.signature(kind).parameters), arguments)
            for name, names in told(METHODS[kind]):
                # In the class itself, not only in a base class.
                method = vars(kind)[name]
                self.assertTrue(inspect.isfunction(method), name)
                self.same(list(inspect.signature(method).parameters), ["self"] + names)

    def test_errors(self):
        for kind, arguments in ((errors.Crossed, ["first", "second"]), (errors.BadStep, ["step"]), (errors.BadLine, ["line"])):
            self.same(list(inspect.signature(kind).parameters), arguments)

    def test_numbers_of_names(self):
        self.same(sum(len(list(told(text))) for text in FUNCTIONS.values()), 156)
        self.same(sum(len(list(told(text))) for text in METHODS.values()), 16)


if __name__ == "__main__":
    unittest.main()
