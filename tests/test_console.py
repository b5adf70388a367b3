"""Points 31.1 to 31.6: the commands of the console, and their errors."""

import random
import unittest
from unittest import mock

from deadbeat.admit import admission, starts_of
from deadbeat.console import run_script
from deadbeat.cpu import Costs
from deadbeat.errors import BoundError, CommandError, DeadbeatError
from deadbeat.images import build
from deadbeat.judging import Limits, judge
from deadbeat.orders import ceilings, numbers
from deadbeat.parsing import parse_program
from deadbeat.reload import charge
from deadbeat.sections import all_routines, records, routine_bound, section_bounds
from deadbeat.system import load
from deadbeat.trees import write_program
from tests.programs import ValidMaker
from tests.test_must import random_processor

SMALL = "system s\nout p\ntask t every 900 within 800\nwrite p 7;\nend"
PLAN = ((4, 2, 4), (4, 2, 4), Costs())
NAMES = ["fetch_hit", "fetch_miss", "plain", "mul", "div", "load_hit", "load_miss", "store", "taken", "count", "port"]
ACTS = ["release", "switch", "enter", "leave", "finish"]
FULL = """system s
in i
out o
out p
object outer operation f(a) cell w a := inner.g(a, 2); give a + 1; end end
object inner cell v cell w[3] operation g(a, b) v := v + a * b; give v; end operation h() end end
task low every 3000 within 2900
cell x x := read i; x := outer.f(x); write o x; inner.h();
end
task high every 2000 within 1000
cell x x := inner.g(1, 1); write p x; write o 5;
end
interrupt k every 3000 within 900 calls inner.g(3, 4)"""


def program(text):
    return f"program\n{text}\n.\n"


def after(text, *commands):
    """The output of commands for a program text."""
    return run_script(program(text) + "\n".join(commands))


def rows_of(text, processor=PLAN):
    """The lines of the rows of the verdict."""
    rows = admission(parse_program(text), processor)[3]
    return [f"{number} {own} {blocked} {'-' if response is None else response}" for number, own, blocked, _, response in rows]


class CommandsTest(unittest.TestCase):
    def test_document_examples(self):
        self.assertEqual(
            run_script("program\nsystem s\nout p\ntask t every 900 within 800\nwrite p 7;\nend\n.\ncheck\nprint"),
            ["ok", "system s", "out p", "task t every 900 within 800", "  write p 7;", "end"])
        self.assertEqual(run_script("program\nsystem\n.\ncheck"), ["error TextError 2"])
        with self.assertRaises(CommandError) as caught:
            run_script("release 1 5\nfly")
        self.assertEqual(caught.exception.line, 2)

    def test_nothing(self):
        for script in ("", "\n", "\n\n\n", "   ", " \n  \n", "# check", "  # check\n#\n#check"):
            self.assertEqual(run_script(script), [])

    def test_check(self):
        self.assertEqual(after(SMALL, "check", "check"), ["ok", "ok"])

    def test_print(self):
        self.assertEqual(after("system s # nothing else", "print"), ["system s"])
        self.assertEqual(after(FULL, "print"), write_program(parse_program(FULL)).split("\n")[:-1])

    def test_size(self):
        self.assertEqual(after("system s", "size"), ["code 0"])
        self.assertEqual(after(SMALL, "size"), ["code 3"])
        for size in (1, 2, 8, 16):
            image = build(parse_program(FULL), size, 4)
            self.assertEqual(after(FULL, f"code 4 2 {size}", "size"), [f"code {len(image[1])}"])

    def test_admit(self):
        self.assertEqual(after("system s", "admit"), ["admitted"])
        self.assertEqual(after(SMALL, "admit"), ["admitted", "1 39 22 67"])
        self.assertEqual(after(SMALL.replace("800", "67"), "admit"), ["admitted", "1 39 22 67"])
        self.assertEqual(after(SMALL.replace("800", "66"), "admit"), ["refused", "1 39 22 -"])
        self.assertEqual(after(FULL, "admit"), ["admitted"] + rows_of(FULL))

    def test_admit_with_some_responses(self):
        text = FULL.replace("within 1000", "within 300")
        found = after(text, "admit")
        self.assertEqual((found[0], [line.endswith(" -") for line in found[1:]]), ("refused", [False, True, False]))
        self.assertEqual(found[1:], rows_of(text))

    def test_run(self):
        self.assertEqual(after(SMALL, "release 1 0", "run 100"), [
            "release 6 1 0", "begin 6 1 0", "switch 18 1", "out 35 1 0 7", "done 45 1 0 27", "outputs 0 7"])

    def test_every_event(self):
        """Lists are joined by commas; an empty one and None are written as a minus sign."""
        found = after(FULL, "input 0 40", "release 1 5", "run 4000")
        self.assertEqual([" ".join(line.split()[:1] + line.split()[2:]) for line in found[:4]], ["idle", "release 1 5", "begin 1 5", "switch 1"])
        kinds = {line.split()[0] for line in found}
        self.assertEqual(kinds, {"idle", "release", "begin", "switch", "in", "enter", "link", "back", "leave", "out", "done", "outputs"})
        calls = [line.split() for line in found if line.split()[0] in ("link", "back")]
        self.assertEqual([row[0] + row[4] for row in calls], ["link40", "link40,2", "back80,80,0,0,0", "back81", "link-", "back80,0,0,0"])
        self.assertEqual(found[-2:], ["outputs 0 81", "outputs 1"])

    def test_run_without_output_ports(self):
        self.assertEqual(run_script(program("system s") + "run 100"), [])
        self.assertEqual(after("system s in i task t every 9 within 9 end", "run 5", "release 1 7", "run 5"), ["idle 7"])

    def test_outputs_of_all_ports(self):
        text = "system s out a out b out c task t every 900 within 900 write c 1; write a 2; write c 3; end"
        self.assertEqual(after(text, "run 100", "release 1 0", "run 500")[:3], ["outputs 0", "outputs 1", "outputs 2"])
        self.assertEqual(after(text, "release 1 0", "run 500")[-3:], ["outputs 0 2", "outputs 1", "outputs 2 1 3"])

    def test_horizons(self):
        self.assertEqual(after(SMALL, "release 1 0", "run 0"), ["outputs 0"])
        self.assertEqual(after(SMALL, "release 1 0", "run 1"), ["release 6 1 0", "outputs 0"])
        self.assertEqual(len(after(SMALL, "release 1 0", "run 4194304")), 6)
        self.assertEqual(len(after(SMALL, "release 1 4194304", "run 4194304")), 2)

    def test_each_run_begins_anew(self):
        found = after(FULL, "input 0 40", "release 1 5", "run 4000", "run 4000")
        self.assertEqual(found[:len(found) // 2], found[len(found) // 2:])

    def test_run_of_a_system_that_is_not_admitted(self):
        found = after(SMALL.replace("800", "10"), "admit", "release 1 0", "run 100", "judge 100")
        self.assertEqual([found[0], found[2], found[-1]], ["refused", "release 6 1 0", "late 4 1"])

    def test_judge(self):
        self.assertEqual(after(SMALL, "judge 100", "release 1 0", "judge 100", "judge 0"), ["fair", "fair", "fair"])
        self.assertEqual(after(SMALL.replace("800", "40"), "release 1 0", "judge 100"), ["late 4 1"])
        self.assertEqual(after(SMALL.replace("800", "20"), "release 1 0", "judge 35"), ["late 4 1"])
        self.assertEqual(after(SMALL.replace("800", "40"), "release 1 0", "judge 35"), ["fair"])

    def test_release(self):
        """In any order, the last command of a number counts, and releases that are too close are ignored."""
        for command in ("release 1 0 900", "release 1 900 0", "release 1 900 0 899 5 900", "release 1 7\nrelease 1 0 900",
                        "release 1 0 900\nrelease 2 0\nrelease 10 4"):
            found = after(SMALL, command, "run 2000")
            self.assertEqual([line for line in found if line.startswith("release")], ["release 6 1 0", "release 906 1 900"])
        self.assertEqual(after(SMALL, "release 1 5", "release 1", "run 100"), ["outputs 0"])

    def test_releases_of_numbers_that_the_program_does_not_have(self):
        found = after(SMALL, *[f"release {number} 0" for number in range(1, 11)], "run 200", "judge 200")
        self.assertEqual([line for line in found if line.startswith("release")], ["release 6 1 0"])
        self.assertEqual(found[-1], "fair")

    def test_releases_of_interrupts(self):
        found = after(FULL, "release 9 0", "release 10 0", "run 900")
        self.assertEqual([line for line in found if line.startswith("begin")], ["begin 6 9 0"])

    def test_input(self):
        text = "system s in a in b out o task t every 900 within 900 cell x x := read b; write o x; x := read b; write o x; end"
        for command, words in (("input 0 1 2", "0 0"), ("input 1 8 9", "8 9"), ("input 1 8", "8 0"), ("input 1 8 9\ninput 1", "0 0"),
                               ("input 1 4294967295 0", "4294967295 0"), ("input 7 3\ninput 1 8 9 5\ninput 0", "8 9")):
            self.assertEqual(after(text, command, "release 1 0", "run 900")[-1], "outputs 0 " + words)

    def test_settings_stay(self):
        """A new program text leaves the other settings as they are."""
        found = run_script("cost port 9\nrelease 1 0\n" + program(SMALL) + "run 99\n" + program(SMALL.replace("7", "8")) + "run 99")
        self.assertEqual([found[3], found[9]], ["out 40 1 0 7", "out 40 1 0 8"])

    def test_costs(self):
        for name in NAMES + ACTS:
            found = after(FULL, f"cost {name} 11", "cost fetch_miss 13", "cost load_miss 17", f"cost {name} 10", "admit")
            changed = Costs(**{"fetch_miss": 13, "load_miss": 17, name: 10})
            self.assertEqual(found[1:], rows_of(FULL, ((4, 2, 4), (4, 2, 4), changed)))

    def test_the_last_cost_counts(self):
        self.assertEqual(after(SMALL, "cost port 64", "cost port 4", "admit"), ["admitted", "1 39 22 67"])

    def test_shapes(self):
        for code, data in (((1, 1, 1), (4, 2, 4)), ((4, 2, 4), (1, 1, 1)), ((64, 4, 16), (3, 3, 2))):
            found = after(FULL, f"code {code[0]} {code[1]} {code[2]}", f"data {data[0]} {data[1]} {data[2]}", "admit")
            self.assertEqual(found[1:], rows_of(FULL, (code, data, Costs())))

    def test_defaults(self):
        self.assertEqual(after(FULL, "admit"), after(FULL, "code 4 2 4", "data 4 2 4", "cost fetch_miss 11", "cost finish 8", "admit"))

    def test_default_shapes(self):
        """A run in which every part of the shapes counts."""
        text = ("system s out o task t every 90000 within 90000 cell a cell v[40] loop k to 3 loop i to 12 "
                "a := v[i * 3] + v[i * 3 + 1]; a := a + v[i]; a := v[i + a] * 2 + a; a := v[i + a] + a; end end write o a; end")
        runs = {}
        for code in ("4 2 4", "5 2 4", "3 2 4", "4 3 4", "4 1 4", "4 2 8", "4 2 2"):
            for data in ("4 2 4", code):
                runs[code, data] = after(text, f"code {code}", f"data {data}", "release 1 0", "run 90000")[-2]
                runs[data, code] = after(text, f"code {data}", f"data {code}", "release 1 0", "run 90000")[-2]
        default = after(text, "release 1 0", "run 90000")[-2]
        self.assertEqual([shapes for shapes, line in runs.items() if line == default], [("4 2 4", "4 2 4")])

    def test_spaces(self):
        for line in ("check", " check", "check  ", "   check   "):
            self.assertEqual(after(SMALL, line), ["ok"])
        found = after(SMALL, "  release   1  0    900 ", "   run    2000")
        self.assertEqual(found, after(SMALL, "release 1 0 900", "run 2000"))
        self.assertEqual(run_script("  program \nsystem s\n.\n check"), ["ok"])

    def test_comments_and_empty_lines(self):
        self.assertEqual(after(SMALL, "", "# fly", "  # fly", "#", "check", "", "#check", "check", ""), ["ok", "ok"])

    def test_program_text(self):
        """Its lines are no commands, whatever they look like."""
        self.assertEqual(run_script("program\n# fly\ncheck\n.\nprint"), ["error TextError 2"])
        self.assertEqual(run_script("program\nsystem s\n# check\n\n.\nprint"), ["system s"])
        self.assertEqual(run_script("program\nsystem program\n.\ncheck"), ["ok"])
        self.assertEqual(run_script("program\nsystem s\n  # x\n.\n.".removesuffix("\n.") + "\ncheck"), ["ok"])

    def test_a_dot_with_spaces(self):
        for dot in (" .", ". ", " . ", "..", ". # x"):
            self.assertEqual(run_script(f"program\nsystem s\n{dot}\n.\ncheck"), ["error TextError 2"])

    def test_a_dot_in_a_comment(self):
        self.assertEqual(run_script("program\nsystem s #\n#.\n.\ncheck"), ["ok"])

    def test_empty_program_text(self):
        self.assertEqual(run_script("program\n.\ncheck"), ["error TextError 1"])
        self.assertEqual(run_script(program(SMALL) + "program\n.\ncheck"), ["error TextError 1"])

    def test_each_line_of_the_text_ends_with_a_newline(self):
        """The end of the text stands in the line behind the last one."""
        self.assertEqual(run_script("program\nsystem s\nout\n.\ncheck"), ["error TextError 3"])

    def test_several_programs(self):
        self.assertEqual(run_script(program(SMALL) + "check\n" + program("system") + "check\n" + program("system t") + "print"),
                         ["ok", "error TextError 2", "system t"])

    def test_judge_of_random_programs(self):
        """The limits are those of point 31.4."""
        seen = set()
        for seed in range(60):
            chance = random.Random(seed)
            maker = ValidMaker(seed)
            maker.times = lambda: (9000, chance.randrange(300, 3000))
            given, processor = maker.program(), random_processor(chance)
            image = build(given, processor[0][2], processor[1][2])
            starts = starts_of(given, image)
            code = image[1]
            table = records(processor, code, list(starts.values()))
            sections = {(number, o): 0 for number in starts for o in range(len(given[3]))}
            for number, start in starts.items():
                for at in all_routines(code, [start]):
                    for _, o, bound in section_bounds(table[at]):
                        sections[number, o] = max(sections[number, o], bound)
            limits = Limits(
                within=dict(zip(numbers(given), [row[3] for row in given[4] + given[5]])), ceilings=ceilings(given), sections=sections,
                bodies={number: routine_bound(table[start]) for number, start in starts.items()},
                reloads={number: max([charge(processor, code, table, starts, ceilings(given), j, number) for j in starts if j > number],
                                     default=0) for number in starts})
            releases = {number: [chance.randrange(2000) for _ in range(3)] for number in starts}
            expected = judge(limits, load(given, processor).run(releases, [], 5000).events)
            script = program(write_program(given)) + "\n".join(
                [f"{name} {' '.join(map(str, shape))}" for name, shape in zip(("code", "data"), processor)] +
                [f"cost {name} {value}" for name, value in vars(processor[2]).items()] +
                [f"release {number} {' '.join(map(str, times))}" for number, times in releases.items()] + ["judge 5000"])
            self.assertEqual(run_script(script), [f"{kind} {at} {number}" for kind, at, number in expected] or ["fair"])
            seen.update([row[0] for row in expected] or ["fair"])
        self.assertLessEqual({"fair", "late"}, seen)

    def test_results_do_not_share(self):
        script = program(SMALL) + "release 1 0\nrun 100"
        first = run_script(script)
        first.append("x")
        self.assertEqual(len(run_script(script)), 6)


class CommandErrorTest(unittest.TestCase):
    def good(self, *lines):
        for line in lines:
            self.assertTrue(all(row.startswith("error TextError 1") for row in run_script(line)), line)

    def bad(self, *lines):
        for line in lines:
            with self.assertRaises(CommandError, msg=line) as caught:
                run_script(f"check\n\n{line}\ncheck\nfly")
            self.assertEqual(caught.exception.line, 3, line)
            self.assertIsInstance(caught.exception, DeadbeatError)

    def test_unknown_words(self):
        self.bad("fly", "Check", "CHECK", "checks", "chec", ".", "-", "1", "%", "system s", "end", "programs", "'check'")

    def test_commands_without_arguments(self):
        for name in ("check", "print", "size", "admit"):
            self.good(name)
            self.bad(f"{name} 1", f"{name} # x", f"{name} {name}", f"{name} .")
        self.bad("program 1", "program program", "program .", "program # x")

    def test_times(self):
        for name in ("run", "judge"):
            self.good(f"{name} 0", f"{name} 1", f"{name} 4194304")
            self.bad(name, f"{name} 4194305", f"{name} 1 2", f"{name} x", f"{name} -1", f"{name} 99999999999")

    def test_numbers(self):
        for number in ("00", "01", "0x1", "0x", "+1", "-1", "-0", "1.", "1.0", "1e1", "1_0", "1,", "#1", "1#", "x", "'1'", "9" * 5000, "1" * 4400):
            self.bad(f"run {number}", f"input 0 {number}", f"release 1 {number}", f"release {number}", f"cost port {number}",
                     f"code {number} 1 1", f"data 1 1 {number}")

    def test_costs(self):
        for name in NAMES:
            self.good(f"cost {name} 1", f"cost {name} 64")
            self.bad(f"cost {name} 0", f"cost {name} 65")
        for name in ACTS:
            self.good(f"cost {name} 0", f"cost {name} 64")
            self.bad(f"cost {name} 65")
        self.bad("cost", "cost port", "cost port 1 2", "cost fly 1", "cost Port 1", "cost 1 port", "cost 1", "cost port port", "cost text 1")

    def test_shapes(self):
        for name in ("code", "data"):
            self.good(f"{name} 1 1 1", f"{name} 64 4 16", f"{name} 63 3 2", f"{name} 5 2 4", f"{name} 5 2 8")
            self.bad(f"{name} 0 1 1", f"{name} 65 1 1", f"{name} 1 0 1", f"{name} 1 5 1", f"{name} 1 1 0", f"{name} 1 1 17", f"{name} 1 1 32",
                     f"{name} 1 1", f"{name} 1 1 1 1", name, f"{name} x 1 1")
            for size in (3, 5, 6, 7, 9, 10, 11, 12, 13, 14, 15):
                self.bad(f"{name} 1 1 {size}")

    def test_releases(self):
        self.good("release 1", "release 10", "release 10 0", "release 1 4194304 0 5 5", "release 1" + " 7" * 64)
        self.bad("release", "release 0", "release 11", "release 0 5", "release 1 4194305", "release 1 5 x", "release 1" + " 7" * 65)

    def test_inputs(self):
        self.good("input 0", "input 7", "input 7 0", "input 0 4294967295 1", "input 0" + " 7" * 64)
        self.bad("input", "input 8", "input 8 1", "input 0 4294967296", "input 0 1 x", "input 0" + " 7" * 65)

    def test_program_without_an_end(self):
        for script, line in (("program", 1), ("program\n", 1), ("check\nprogram\nsystem s\n", 2), ("program\nsystem s\n. \n .", 1),
                             ("program\n.\nprogram\nfly", 3), ("\n\nprogram\nprogram\n..", 3)):
            with self.assertRaises(CommandError) as caught:
                run_script(script)
            self.assertEqual(caught.exception.line, line)

    def test_the_first_line_counts(self):
        for script, line in (("check\nfly\nrun", 2), ("run\nfly", 1), ("fly\nprogram", 1), (program(SMALL) + "check\nfly", 9)):
            with self.assertRaises(CommandError) as caught:
                run_script(script)
            self.assertEqual(caught.exception.line, line)

    def test_lines_of_the_program_text_count(self):
        with self.assertRaises(CommandError) as caught:
            run_script("# x\n" + program("a\nb\n\nc") + "\n\nfly")
        self.assertEqual(caught.exception.line, 10)

    def test_settings_behind_a_wrong_line(self):
        """Nothing is printed, whatever comes ahead of the wrong line."""
        with self.assertRaises(CommandError):
            run_script(program(SMALL) + "check\nprint\nrun 4194304\ncode 1 1 3")


class OtherErrorsTest(unittest.TestCase):
    COMMANDS = ["check", "print", "size", "admit", "run 100", "judge 100"]

    def errors(self, text, *settings):
        return after(text, *settings, *self.COMMANDS)

    def test_ahead_of_any_program(self):
        self.assertEqual(run_script("\n".join(self.COMMANDS)), ["error TextError 1"] * 6)

    def test_texts(self):
        """Errors of the tokens and of the grammar, with the line within the text."""
        self.assertEqual(self.errors("system s\n\n$"), ["error TextError 3"] * 6)
        self.assertEqual(self.errors("# x\nsystem s\nout\n\n\n"), ["error TextError 7"] * 6)
        self.assertEqual(self.errors("system s\ntask t every 0 within 1 end"), ["error TextError 2"] * 6)
        self.assertEqual(self.errors("system 007"), ["error TextError 1"] * 6)

    def test_rules(self):
        for text, rule in (("system s out s out s", "name"), ("system s task t every 5 within 6 end", "size"),
                           ("system s task t every 5 within 5 x := 1; end", "cell"), ("system s task t every 5 within 5 write o 1; end", "port"),
                           ("system s task t every 5 within 5 o.f(); end", "call")):
            self.assertEqual(self.errors(text), [f"error RuleError {rule}"] * 6)

    def test_costs_of_misses(self):
        """Not for `check` and `print`, and behind the errors of the text and the rules."""
        for costs in (("cost fetch_hit 12",), ("cost load_hit 12",), ("cost fetch_miss 10", "cost fetch_hit 11"), ("cost load_hit 64",)):
            self.assertEqual(self.errors(SMALL, *costs), ["ok", *write_program(parse_program(SMALL)).split("\n")[:-1]] + ["error PlanError"] * 4)
            self.assertEqual(self.errors("system", *costs), ["error TextError 2"] * 6)
            self.assertEqual(self.errors("system s out s out s", *costs), ["error RuleError name"] * 6)
        self.assertNotIn("error PlanError", self.errors(SMALL, "cost fetch_hit 11", "cost load_hit 11"))
        self.assertNotIn("error PlanError", self.errors(SMALL, "cost fetch_hit 12", "cost fetch_hit 3"))
        self.assertNotIn("error PlanError", self.errors(SMALL, "cost fetch_hit 12", "cost fetch_miss 12"))

    def test_too_much_code(self):
        """Two tasks with many statements; a miss that costs less than a hit is told first."""
        body = "x := x + x * x - x / (x + 1) + x * (x + x);\n" * 180
        text = "system s" + "".join(f" task t{n} every 4194304 within 4194304 cell x\n{body}end" for n in range(2))
        self.assertEqual(after(text, "check", "size", "admit", "run 100", "judge 100"), ["ok"] + ["error CodeError"] * 4)
        self.assertEqual(after(text, "cost fetch_hit 12", "check", "size", "admit", "run 100", "judge 100"), ["ok"] + ["error PlanError"] * 4)

    def test_no_bound(self):
        """No text leads to this error, so it is raised in place of the analysis."""
        with mock.patch("deadbeat.console.analysed", side_effect=BoundError(0)):
            self.assertEqual(after(SMALL, "admit", "check", "judge 5"), ["error BoundError", "ok", "error BoundError"])

    def test_the_script_goes_on(self):
        found = run_script("check\n" + program("system s out s out s") + "check\n" + program(SMALL) + "check\ncost fetch_hit 12\nsize\ncheck")
        self.assertEqual(found, ["error TextError 1", "error RuleError name", "ok", "error PlanError", "ok"])


if __name__ == "__main__":
    unittest.main()
