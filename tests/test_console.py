"""Part 23: the console."""

import random
import unittest

from foldandbound import errors
from foldandbound.console import Console
from foldandbound.flows import least_supply
from foldandbound.jobs import makes, printed
from foldandbound.jobways import alike_jobs
from foldandbound.orders import order_of
from foldandbound.texts import read_flow, read_job, read_plate, write_job
from tests.support import ShopCase, full_rows, is_strictly, random_folds, small_sizes

STEPS = ("sheet book 1x2", "print book p", "turn book turn", "print book q", "turn book turn", "fold book column 1 low over")
FLOW = "gather(2,run(5,a),split(2,run(1,b)))"
START = [f"step j {step}" for step in STEPS]
START = ["job j"] + START + ["plate p 2 3", "plate q 4 1", f"flow f {FLOW}", "deliver a 100", "deliver b 50"]

# A line of each command that can be done after START and `take o j f 10 50`.
GOOD = ("job w", "step j lay a b", "unstep j", "plate p 1", "flow g a", "drop plate p", "take w j f 1 0", "cancel o",
        "deliver a 1", "finish o 0,0,0", "stock", "orders", "read o", "makes j", "alike j j", "show j", "least f 5",
        "fold 1x2 column 1 low over", "undo")
# Those of them that change something.
DEEDS = ("job", "step", "unstep", "plate", "flow", "drop", "take", "cancel", "deliver", "finish", "undo")
ASKS = ("stock", "orders", "show j", "show k", "read o", "makes j", "least f 5", "drop flow x")


class ConsoleCase(ShopCase):
    def opened(self, *lines):
        """A console after the lines of START and some more."""
        console = Console()
        for line in START + list(lines):
            self.same(console.enter(line), ["ok"], line)
        return console

    def told(self, console, line):
        """The one text with which a line is answered."""
        answer = console.enter(line)
        self.plain(answer)
        self.assertEqual((type(answer), len(answer)), (list, 1), line)
        return answer[0]

    def seen(self, console):
        """All that a console tells of itself."""
        found = [console.enter(line) for line in ASKS]
        for kind in ("job", "plate", "flow"):
            found.append([(word, console.shop.thing(kind, word)) for word in console.shop.names(kind)])
        return found + [console.shop.open_orders(), console.shop.done_orders()]

    def refuses(self, console, line, error):
        before = self.seen(console)
        self.same(console.enter(line), ["error " + error], line)
        self.assertTrue(is_strictly(self.seen(console), before), line)


class TestCommands(ConsoleCase):
    """Point 23.1: what the commands do."""

    def test_each_command_can_be_done(self):
        for line in GOOD:
            console = self.opened("take o j f 10 50")
            answer = console.enter(line)
            self.assertFalse(answer[0].startswith("error"), (line, answer))
            if line.split(" ")[0] in DEEDS and not line.startswith("finish"):
                self.same(answer, ["ok"], line)

    def test_jobs(self):
        console = Console()
        self.same(console.enter("job a"), ["ok"])
        self.same(console.enter("show a"), [])
        for step in STEPS:
            self.same(console.enter("step a " + step), ["ok"])
        self.same(console.enter("show a"), list(STEPS))
        self.same(console.enter("unstep a"), ["ok"])
        self.same(console.enter("show a"), list(STEPS[:-1]))
        self.same(console.enter("job a"), ["ok"])
        self.same(console.enter("show a"), [])
        self.same(console.enter("unstep a"), ["error NoStep"])
        for command in ("show b", "unstep b", "step b lay a b", "makes b", "alike a b", "alike b a"):
            self.refuses(console, command, "Unknown")

    def test_the_steps_of_a_job_book(self):
        console = Console()
        console.enter("job a")
        for text in ("sheet a 16x4", "fold a row 63 high under", "cut a column 1 b", "lay a b", "turn a stay"):
            self.same(console.enter("step a " + text), ["ok"])
        self.same(write_job(console.shop.thing("job", "a")).split("\n"), console.enter("show a"))
        for text in ("sheet a", "sheet a 17x1", "lay a", "lay a b c", "turn a flip", "fold a row 0 low over",
                     "fold a row 64 low over", "cut a row 01 b", "book", "lay a b, lay a b"):
            self.refuses(console, "step a " + text, "BadText")
            # The text is read before the name is looked up.
            self.refuses(console, "step x " + text, "BadText")
        for _ in range(55):
            self.same(console.enter("step a lay a b"), ["ok"])
        self.same(len(console.enter("show a")), 60)
        self.refuses(console, "step a lay a b", "BadJob")
        self.refuses(console, "step a lay a", "BadText")
        self.same(console.enter("unstep a"), ["ok"])
        self.same(console.enter("step a lay a b"), ["ok"])

    def test_plates_and_flows(self):
        console = Console()
        for text in ("0", "1*", "1 0 / 3* 4", "9999 1", "1 / 2 / 3"):
            self.same(console.enter("plate p " + text), ["ok"])
            self.same(console.shop.thing("plate", "p"), read_plate(text))
        for text in ("", " ", "0*", "10000", "1  2", "1 /", "1/2", "1 2 / 3", " 1", "1 ", "a"):
            self.refuses(console, "plate p " + text, "BadText")
        for text in ("a", FLOW, "run(0,run)"):
            self.same(console.enter("flow f " + text), ["ok"])
            self.same(console.shop.thing("flow", "f"), read_flow(text))
        for text in ("", " ", "A", "run(5,a", "run(5, a)", "run(100,a)", "gather(1,a,a)", " a", "a ", "a b"):
            self.refuses(console, "flow f " + text, "BadText")

    def test_full(self):
        for command in ("job {}", "plate {} 1", "flow {} a"):
            console = Console()
            for word in "abcdefghijkl":
                self.same(console.enter(command.format(word)), ["ok"])
            self.refuses(console, command.format("m"), "Full")
            self.same(console.enter(command.format("a")), ["ok"])
        console = Console()
        for word in "abcdefgh":
            self.same(console.enter(f"deliver {word} 0"), ["ok"])
        self.refuses(console, "deliver i 0", "Full")

    def test_dropping(self):
        console = self.opened()
        for kind, word in (("job", "j"), ("plate", "p"), ("flow", "f")):
            self.refuses(console, f"drop {kind} x", "Unknown")
            self.same(console.enter(f"drop {kind} {word}"), ["ok"])
            self.refuses(console, f"drop {kind} {word}", "Unknown")
        for kind in ("jobs", "stock", "order", "Job", "sheet", "a", "flows"):
            self.refuses(console, f"drop {kind} q", "BadText")
        console = self.opened("take o j f 10 50")
        self.refuses(console, "drop job j", "InUse")
        self.refuses(console, "drop flow f", "InUse")

    def test_stock_and_orders(self):
        console = Console()
        self.same(console.enter("stock"), ["none"])
        self.same(console.enter("orders"), ["none"])
        for line in ("deliver c 3", "deliver ab 0", "deliver a 1234567890", "deliver b 7", "deliver b 1"):
            self.same(console.enter(line), ["ok"])
        self.same(console.enter("stock"), ["a:1234567890 ab:0 b:8 c:3"])
        console = self.opened("take o j f 10 50", "take b j f 1 0", "take ab j f 2 1234567890")
        self.same(console.enter("orders"), ["ab b o"])
        self.same(console.enter("stock"), ["a:66 b:37"])
        self.same(console.enter("cancel o"), ["ok"])
        self.same(console.enter("orders"), ["ab b"])
        self.same(console.enter("stock"), ["a:83 b:44"])
        self.same(console.shop.open_orders(), [("ab", "j", "f", 2, 1234567890), ("b", "j", "f", 1, 0)])

    def test_taking_and_finishing(self):
        console = self.opened("take o j f 10 50")
        self.refuses(console, "take o j f 10 50", "Taken")
        self.refuses(console, "take x k f 10 50", "Unknown")
        self.refuses(console, "take x j g 10 50", "Unknown")
        self.refuses(console, "take x j f 1000 50", "Short")
        self.refuses(console, "take x j f 0 50", "BadText")
        self.refuses(console, "finish x 0,0,0", "Unknown")
        for course in ("none", "0", "0,0", "0,0,0,0", "3,0,0", "0,6,0", "0,0,2"):
            self.refuses(console, "finish o " + course, "BadCourse")
        for course in ("", "0,0,", ",0,0", "0,,0", "0, 0, 0", "0 0 0", "0;0;0", "00,0,0", "0,0,01", "-1,0,0", "a,0,0", "None",
                       "(0,0,0)", "0,0,0 ", " 0,0,0", "12345678901,0,0", "none,0", "nothing", "0,0,none"):
            self.refuses(console, "finish o " + course, "BadText")
        self.same(console.enter("finish o 2,5,1"), ["10"])
        self.same(console.enter("orders"), ["none"])
        self.refuses(console, "finish o 2,5,1", "Unknown")
        self.refuses(console, "cancel o", "Unknown")
        self.refuses(console, "take o j f 1 0", "Taken")
        self.same(console.enter("flow g split(4,a)"), ["ok"])
        self.same(console.enter("take p j g 5 0"), ["ok"])
        self.refuses(console, "finish p 0", "BadCourse")
        self.same(console.enter("finish p none"), ["8"])

    def test_reading(self):
        console = self.opened("take o j f 10 50")
        self.same(console.enter("read o"), ["1 2 3 4"])
        self.same(console.enter("plate p 7* 0"), ["ok"])
        self.same(console.enter("read o"), ["1 7* 0 4"])
        self.refuses(console, "read x", "Unknown")
        self.refuses(console, "read j", "Unknown")
        self.same(console.enter("job j"), ["ok"])
        self.same(console.enter("read o"), ["1 7* 0 4"])
        self.same(console.enter("take e j f 1 0"), ["ok"])
        self.refuses(console, "read e", "NoBook")
        self.same(console.enter("step j turn book turn"), ["ok"])
        self.same(console.enter("take b j f 1 0"), ["ok"])
        self.refuses(console, "read b", "BadStep")

    def test_makes_and_alike(self):
        console = self.opened()
        self.same(console.enter("makes j"), ["4"])
        for line in ("job k", "step k sheet book 1x1"):
            self.same(console.enter(line), ["ok"])
        self.same(console.enter("makes k"), ["2"])
        self.same(console.enter("alike j k"), ["no"])
        self.same(console.enter("alike j j"), ["yes"])
        self.same(console.enter("step k turn book spin"), ["ok"])
        for line in ("job l", "step l sheet book 1x1", "step l turn book turn"):
            self.same(console.enter(line), ["ok"])
        self.same(console.enter("alike k l"), ["yes"])
        for line in ("job l", "step l print book p"):
            self.same(console.enter(line), ["ok"])
        self.refuses(console, "makes l", "BadStep")
        self.refuses(console, "alike j l", "BadStep")
        self.refuses(console, "alike l j", "BadStep")
        self.refuses(console, "alike x l", "Unknown")
        self.same(console.enter("job m"), ["ok"])
        self.refuses(console, "makes m", "NoBook")
        self.refuses(console, "alike m l", "NoBook")
        self.refuses(console, "alike l m", "BadStep")
        for line in ("makes f", "alike j f", "alike p j", "show f", "least j 5"):
            self.refuses(console, line, "Unknown")

    def test_least(self):
        console = self.opened("flow z split(16,run(99,zz))", "flow y gather(0,b,ab,a)")
        self.same(console.enter("least f 10"), ["a:17 b:7"])
        self.same(console.enter("least f 1"), ["a:8 b:3"])
        self.same(console.enter("least z 17"), ["zz:101"])
        self.same(console.enter("least y 1234567890"), ["a:1234567890 ab:1234567890 b:1234567890"])
        self.refuses(console, "least f 0", "BadText")
        self.refuses(console, "least x 0", "BadText")
        self.refuses(console, "least x 1", "Unknown")

    def test_folds(self):
        console = Console()
        self.same(console.enter("fold 1x2 column 1 low over"), ["0.0 0.1"])
        self.same(console.enter("fold 1x2 column 1 high over"), ["0.1 0.0"])
        self.same(console.enter("fold 2x2 column 1 low over, row 1 high under"), ["0.0 0.1 1.1 1.0"])
        for size in small_sizes(4)[1:]:
            for folds in full_rows(size)[::7]:
                text = ", ".join(" ".join(map(str, fold)) for fold in folds)
                wanted = " ".join(f"{row}.{column}" for row, column in order_of(size, folds))
                self.same(console.enter(f"fold {size[0]}x{size[1]} {text}"), [wanted])
        rng = random.Random(231)
        for size in ((1, 16), (16, 4), (8, 8)):
            folds = random_folds(rng, size)
            text = ", ".join(" ".join(map(str, fold)) for fold in folds)
            wanted = " ".join(f"{row}.{column}" for row, column in order_of(size, folds))
            self.same(console.enter(f"fold {size[0]}x{size[1]} {text}"), [wanted])
        # Folds that cannot be done, or that are not full.
        for line in ("fold 1x2 column 2 low over", "fold 1x2 row 1 low over", "fold 1x3 column 1 low over",
                     "fold 1x1 column 1 low over", "fold 1x2 column 1 low over, column 1 low over",
                     "fold 2x2 column 1 low over", "fold 1x2 column 63 low over"):
            self.refuses(console, line, "BadFold")
        for line in ("fold 1x2", "fold 1x1", "fold 1x1 ", "fold 1x2 ", "fold", "fold 1x2 column 1 low", "fold 17x1 row 1 low over",
                     "fold 1x2 column 1 low over,", "fold 1x2 column 1 low over, ", "fold 1x2 column 1 low over,row 1 low over",
                     "fold 1x2 column 1 low over  column 1 low over", "fold 1x2 column 1 low over,  row 1 low over",
                     "fold 1x2 column 0 low over", "fold 1x2 column 64 low over", "fold 1x2 column 01 low over",
                     "fold 1x2 column 1 low above", "fold 1x2 , column 1 low over", "fold 1 2 column 1 low over",
                     "fold 01x2 column 1 low over", "fold 0x2 column 1 low over", "fold 8x9 column 1 low over",
                     "fold 1x2x3 column 1 low over", "fold axb column 1 low over", "fold column 1 low over",
                     "fold 1x2  column 1 low over", "fold 1x2 column 1 low over ", "fold 1x2 column 1 low over none",
                     "fold 1x2 none", "fold 1x2 column 1 low over, column 1 low"):
            self.refuses(console, line, "BadText")

    def test_undo(self):
        console = Console()
        self.refuses(console, "undo", "NothingToUndo")
        seen = [self.seen(console)]
        lines = START + ["take o j f 10 50", "take p j f 1 1", "finish p 0,0,0", "unstep j", "drop plate q", "cancel o",
                         "deliver c 0"]
        for line in lines:
            self.assertFalse(console.enter(line)[0].startswith("error"), line)
            seen.append(self.seen(console))
            console.enter("bogus")
            console.enter("undo ")
            console.enter("drop job x")
        for state in seen[-2::-1]:
            self.same(console.enter("undo"), ["ok"])
            self.assertTrue(is_strictly(self.seen(console), state))
        self.refuses(console, "undo", "NothingToUndo")


class TestForms(ConsoleCase):
    """Point 23.1: lines that are no commands."""

    def test_items_too_few_and_too_many(self):
        for line in GOOD:
            console = self.opened("take o j f 10 50")
            items = line.split(" ")
            wrong = [line + " ", " " + line, line + " x", line + " 1", line + "  x", line.upper(), line.capitalize(),
                     items[0] + "s " + " ".join(items[1:]), line.replace(" ", "\t"), line + "\t", "\t" + line]
            wrong += [" ".join(items[:at]) for at in range(len(items))]
            for at in range(1, len(items)):
                # Two blanks between two items.
                wrong.append(" ".join(items[:at]) + "  " + " ".join(items[at:]))
                wrong.append(" ".join(items[:at]) + " " + items[at - 1] + " " + " ".join(items[at:]))
            for other in wrong:
                # One item more may be one face more.
                if other != line and other != "plate p 1 1":
                    self.refuses(console, other, "BadText")

    def test_lines_that_are_no_commands(self):
        console = self.opened("take o j f 10 50")
        for line in ("", " ", "  ", "none", "help", "quit", "a", "1", "set job j", "print book p", "sheet book 1x2", "names job",
                     "thing job j", "FORMS", "error", "ok", "undo undo", "stock orders", "stock a", "orders o", "\u00e9", "stock;",
                     "job", "job  j", "do_job j", "__class__", "?", "cancel", "show", "undo 1"):
            self.refuses(console, line, "BadText")

    def test_words(self):
        forms = ("job {}", "step {} lay a b", "unstep {}", "plate {} 1", "flow {} a", "drop job {}", "drop flow {}",
                 "take {} j f 1 0", "take w {} f 1 0", "take w j {} 1 0", "cancel {}", "deliver {} 1", "finish {} 0,0,0",
                 "read {}", "makes {}", "alike {} j", "alike j {}", "show {}", "least {} 1")
        for form in forms:
            console = self.opened("take o j f 10 50")
            for word in ("abcdefghijklm", "A", "aB", "a1", "1", "a-b", "a_b", "\u00e9", "a,", "*", "a.", "'a'"):
                self.refuses(console, form.format(word), "BadText")
            answer = console.enter(form.format("abcdefghijkl"))
            self.assertIn(answer[0] if answer else "ok", ("ok", "error Unknown"), form)

    def test_numbers(self):
        for form, least in (("take w j f {} 0", 1), ("take w j f 1 {}", 0), ("deliver a {}", 0), ("least f {}", 1),
                            ("finish o {},0,0", 0)):
            console = self.opened("take o j f 10 50")
            for number in ("00", "01", "007", "-1", "-0", "+1", "1.0", "1e3", "x", "1x", "0x1", "1,2", "1_0", "12345678901",
                           "00000000001", "\u00b2", "\u0661", "one", "True", "None", "9" * 5000):
                if not form.startswith("finish") or number != "1,2":
                    self.refuses(console, form.format(number), "BadText")
            for number in ("0", "1", "1234567890"):
                answer = self.told(self.opened("take o j f 10 50"), form.format(number))
                if int(number) < least:
                    self.same(answer, "error BadText", form)
                else:
                    self.assertNotEqual(answer, "error BadText", (form, number))

    def test_names_of_errors(self):
        console = self.opened("take o j f 10 50")
        found = {}
        for line in ("nothing", "read x", "drop job j", "take o j f 1 1", "take p j f 999 1", "finish o 9,9,9",
                     "fold 1x2 row 1 low over"):
            answer = self.told(console, line)
            word, name = answer.split(" ")
            self.same(word, "error")
            self.assertTrue(issubclass(getattr(errors, name), errors.ShopError))
            found[name] = True
        self.same(sorted(found), ["BadCourse", "BadFold", "BadText", "InUse", "Short", "Taken", "Unknown"])


class TestSame(ConsoleCase):
    """Point 23.1: the console does what the functions of earlier parts do."""

    def test_random_lines(self):
        rng = random.Random(232)
        for _ in range(30):
            console = Console()
            shop = console.shop
            for _ in range(80):
                line = random_line(rng)
                jobs = {word: shop.thing("job", word) for word in shop.names("job")}
                orders = {order[0]: order for order in shop.open_orders()}
                flows = {word: shop.thing("flow", word) for word in shop.names("flow")}
                answer = console.enter(line)
                command, *items = line.split(" ")
                if command == "makes" and items[0] in jobs:
                    self.same(answer, [told(lambda: str(len(makes(jobs[items[0]]))))])
                elif command == "alike" and items[0] in jobs and items[1] in jobs:
                    wanted = told(lambda: "yes" if alike_jobs(jobs[items[0]], jobs[items[1]]) else "no")
                    self.same(answer, [wanted])
                elif command == "show" and items[0] in jobs:
                    self.same(read_job("\n".join(answer)), jobs[items[0]])
                elif command == "step" and items[0] in jobs and len(jobs[items[0]]) < 60:
                    self.same(answer, ["ok"])
                    self.same(shop.thing("job", items[0]), jobs[items[0]] + read_job(" ".join(items[1:])))
                elif command == "least" and items[0] in flows:
                    supply = least_supply(flows[items[0]], int(items[1]))
                    self.same(answer, [" ".join(f"{word}:{number}" for word, number in sorted(supply.items()))])
                elif command == "finish" and items[0] in orders:
                    if answer != ["error BadCourse"]:
                        self.assertIn((items[0], orders[items[0]][3], int(answer[0])), shop.done_orders())
                elif command == "read" and items[0] in orders:
                    self.same(answer, [told(lambda: written(shop.book_of(items[0])))])
                elif command in ("makes", "show", "least", "read", "finish"):
                    self.same(answer, ["error Unknown"])
                self.assertFalse(answer == ["error BadText"], line)


def told(function):
    """What a function returns, or the text of the error that it raises."""
    try:
        return function()
    except errors.ShopError as error:
        return "error " + type(error).__name__


def written(faces):
    """The text of some faces."""
    return " ".join(str(page) + "*" * flip for page, flip in faces)


def random_line(rng):
    """A line that is a command, which often cannot be done."""
    job, order, flow = rng.choice("jjk"), rng.choice("op"), rng.choice("fg")
    return rng.choice((
        f"job {job}", f"step {job} {rng.choice(STEPS)}", f"step {job} {rng.choice(STEPS)}", f"unstep {job}",
        f"plate {rng.choice('pq')} {rng.choice(('2 3', '4 1', '5*', '1 2 / 3 4*'))}", f"flow {flow} {rng.choice((FLOW, 'a'))}",
        f"drop {rng.choice(('job', 'plate', 'flow'))} {rng.choice('jkpqfg')}", f"take {order} {job} {flow} {rng.randint(1, 9)} 5",
        f"cancel {order}", f"deliver {rng.choice('ab')} {rng.randint(0, 50)}", f"finish {order} {rng.choice(('2,5,1', 'none'))}",
        "stock", "orders", f"read {order}", f"makes {job}", f"alike {job} {rng.choice('jk')}", f"show {job}",
        f"least {flow} {rng.randint(1, 99)}", "fold 1x2 column 1 low over", "undo"))


class TestWhole(ConsoleCase):
    """Point 23.1: a book from the first step to the last one."""

    def test_a_book(self):
        console = self.opened("take o j f 10 50")
        job = read_job("\n".join(STEPS))
        plates = {"p": read_plate("2 3"), "q": read_plate("4 1")}
        self.same(console.enter("read o"), [" ".join(str(page) for page, _ in printed(job, plates))])
        self.same(console.enter("stock"), ["a:83 b:43"])
        self.same(console.enter("finish o 1,2,0"), ["13"])
        self.same(console.enter("undo"), ["ok"])
        self.same(console.enter("orders"), ["o"])

    def test_consoles_are_apart(self):
        one, other = Console(), Console()
        one.enter("job a")
        self.same(other.enter("show a"), ["error Unknown"])
        answer = one.enter("stock")
        answer.append("more")
        self.same(one.enter("stock"), ["none"])


if __name__ == "__main__":
    unittest.main()
