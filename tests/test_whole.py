"""What the parts of the document promise of each other, from the sheet to the order."""

import random
import unittest

from foldandbound.colours import within_total
from foldandbound.console import Console
from foldandbound.costs import shares
from foldandbound.flows import comes_out, least_supply, safe_paper
from foldandbound.folding import all_folded
from foldandbound.handlings import handlings_to, job_of, piles_of
from foldandbound.inks import best_lay, inks_of_job, plates_needed
from foldandbound.jobs import makes, plates_of, printed
from foldandbound.jobways import alike_jobs
from foldandbound.layouts import can_be_cut, check_cutting, cutting_paper
from foldandbound.orders import folds_to, lays_for, order_of, orders
from foldandbound.reading import is_right, laying, reading
from foldandbound.sheets import is_lay
from foldandbound.shop import Shop
from foldandbound.texts import read_flow, read_job, read_layout, write_flow, write_job, write_layout, write_plate
from tests.support import ShopCase, full_rows, random_book, random_folds, random_plates, small_sizes
from tests.test_flows import random_flow, told_runs


def as_handlings(folds):
    return tuple(("fold", fold) for fold in folds)


class TestWhole(ShopCase):
    def test_the_plates_of_a_folded_sheet_are_its_laying(self):
        rng = random.Random(301)
        for size in small_sizes(16):
            folds = random_folds(rng, size)
            job = job_of(size, ("p", "q"), as_handlings(folds))
            n = rng.randint(0, 2 * size[0] * size[1])
            plates = plates_of(job, n)
            lay = laying(size, folds, n)
            self.true(is_lay(size, lay))
            self.same((plates["p"], plates["q"]), lay)
            self.same(printed(job, plates), reading({0: lay}, all_folded(size, folds)[0][0]))
            self.true(is_right(printed(job, plates), n))
            inks = {page: (("black",), ("blue", "red"))[page % 2] for page in range(1, n + 1)}
            self.same(inks_of_job(job, plates, inks), plates_needed(lay, inks))

    def test_the_piles_of_folds_are_piles_of_handlings(self):
        for size in small_sizes(4):
            piles = piles_of(size)
            for folds in full_rows(size)[::5]:
                pile = all_folded(size, folds)[0][0]
                self.assertIn(pile, piles)
                row = handlings_to(size, pile)
                self.assertLessEqual(len(row), len(folds_to(size, order_of(size, folds))) + 1)
                # Whatever leads to one pile makes the same book.
                self.true(alike_jobs(job_of(size, ("p", "q"), row), job_of(size, ("p", "q"), as_handlings(folds))))
            found = {tuple(layer[1:3] for layer in pile[::-1]) for pile in piles}
            self.assertTrue(set(orders(size)) <= found)

    def test_the_best_lay_is_one_of_all(self):
        inks = {1: ("red",), 2: ("red",), 5: ("blue",)}
        for size in small_sizes(4):
            n = 2 * size[0] * size[1]
            lays = lays_for(size, n)
            self.assertEqual(min(plates_needed(lay, inks) for lay in lays), plates_needed(best_lay(size, n, inks), inks))

    def test_books_through_shop_texts_and_console(self):
        rng = random.Random(302)
        for _ in range(60):
            job, plates = random_book(rng), random_plates(rng)
            if len(job) > 60:
                continue
            flow = random_flow(rng, 3)
            shop, desk = Shop({word: 5000 for word in least_supply(flow, 1)}), Console()
            shop.set_job("j", read_job(write_job(job)))
            shop.set_flow("f", read_flow(write_flow(flow)))
            lines = ["job j"] + ["step j " + line for line in write_job(job).split("\n")] + ["flow f " + write_flow(flow)]
            lines += [f"deliver {word} 5000" for word in least_supply(flow, 1)]
            for word, plate in plates.items():
                shop.set_plate(word, plate)
                lines.append(f"plate {word} {write_plate(plate)}")
            for line in lines:
                self.same(desk.enter(line), ["ok"], line)
            supply = shop.take("o", "j", "f", 9, 0)
            self.same(supply, least_supply(flow, 9))
            self.same(safe_paper(flow, supply, 9)[0], "safe")
            self.same(desk.enter("take o j f 9 0"), ["ok"])
            faces = printed(job, plates)
            self.same(shop.book_of("o"), faces)
            self.same(desk.enter("read o"), [" ".join(str(page) + "*" * flip for page, flip in faces)])
            self.same(desk.enter("makes j"), [str(len(makes(job)))])
            self.same(desk.enter("show j"), write_job(job).split("\n"))
            told = " ".join(f"{word}:{number}" for word, number in sorted(supply.items()))
            self.same(desk.enter("least f 9"), [told])
            course = (0,) * len(told_runs(flow))
            out = comes_out(flow, supply, course)
            self.same(shop.finish("o", course), out)
            self.same(desk.enter("finish o " + (",".join(map(str, course)) or "none")), [str(out)])

    def test_totals_of_tints_are_shares(self):
        for tint, most in (((90, 40, 70, 20), 150), ((1, 2, 4, 0), 5), ((100, 100, 99, 100), 200)):
            found = within_total(tint, most)
            self.same(list(found[:3]), shares(most - tint[3], list(tint[:3])))

    def test_layouts_that_were_read_can_be_cut(self):
        for text, can in (("board 4x4\npiece 0 0 2 4\npiece 2 0 2 2", True),
                          ("board 3x3\npiece 0 0 2 1\npiece 2 0 1 2\npiece 1 2 2 1\npiece 0 1 1 2", False)):
            layout = read_layout(text)
            self.same(write_layout(layout), text)
            self.same(can_be_cut(layout), can)
            self.true(check_cutting(layout, cutting_paper(layout)))


if __name__ == "__main__":
    unittest.main()
