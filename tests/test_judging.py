"""Points 30.1 to 30.5: the findings about traces."""

import random
import unittest

from deadbeat.judging import Limits, judge, response_times
from deadbeat.releases import accepted
from deadbeat.system import load
from tests.programs import ValidMaker
from tests.purity import check_pure, frozen
from tests.second_judge import second_judge
from tests.test_must import random_processor

MANY = 10 ** 6


def limits(within=MANY, ceilings=(), bodies=MANY, sections=MANY, reloads=0):
    """Limits that are the same for all numbers and objects, or dicts."""
    def rows(given, keys):
        return given if isinstance(given, dict) else {key: given for key in keys}

    numbers = range(1, 11)
    return Limits(within=rows(within, numbers), ceilings=list(ceilings), bodies=rows(bodies, numbers), reloads=rows(reloads, numbers),
                  sections=rows(sections, [(number, o) for number in numbers for o in range(9)]))


class LimitsTest(unittest.TestCase):
    def test_fields(self):
        given = dict(within={3: 50}, ceilings=[3], bodies={3: 25}, sections={(3, 0): 7}, reloads={3: 9})
        before = frozen(given)
        found = Limits(**given)
        for name, value in given.items():
            self.assertEqual(getattr(found, name), value)
        self.assertEqual(frozen(given), before)
        for value in given.values():
            value.clear()
        self.assertEqual([found.within, found.ceilings, found.bodies, found.sections, found.reloads],
                         [{3: 50}, [3], {3: 25}, {(3, 0): 7}, {3: 9}])


class JudgeTest(unittest.TestCase):
    def judge(self, trace, *, given=None, **changes):
        given = given or limits(**changes)
        found = judge(given, trace)
        self.assertEqual(found, second_judge(given, trace))
        return found

    TRACE = [("idle", 5), ("release", 11, 3, 5), ("begin", 11, 3, 5), ("switch", 23, 3), ("out", 38, 3, 0, 0), ("done", 48, 3, 5, 25)]

    def test_document_example(self):
        self.assertEqual(judge(Limits(within={3: 50}, ceilings=[], bodies={3: 25}, sections={}, reloads={3: 0}), self.TRACE), [])
        self.assertEqual(judge(Limits(within={3: 40}, ceilings=[], bodies={3: 24}, sections={}, reloads={3: 9}), self.TRACE),
                         [("late", 5, 3), ("over", 5, 3)])

    def test_empty_trace(self):
        self.assertEqual(self.judge([]), [])

    # Ahead of every event of a job: number 3 has begun.
    BEGUN = [("release", 6, 3, 0), ("begin", 6, 3, 0)]
    INSIDE = BEGUN + [("enter", 12, 3, 1)]

    def test_fair_events(self):
        trace = self.INSIDE + [("switch", 12, 3), ("link", 12, 3, 40, []), ("back", 13, 3, None, [1]), ("in", 13, 3, 0, 7), ("enter", 13, 3, 0),
                               ("leave", 14, 3, 0, 1), ("leave", 15, 3, 1, 3), ("done", 16, 3, 0, 9), ("idle", 20), ("release", 20, 1, 20)]
        self.assertEqual(self.judge(trace, ceilings=[3, 5]), [])

    def form(self, trace, event):
        """An event that breaks the form; the judge stops there."""
        late = [("release", 500, 1, 0), ("idle", 500), ("release", 0, 2, 0)]
        found = self.judge(trace + [event] + late, ceilings=[9, 9], within=1)
        self.assertEqual(found, [("form", len(trace), event[2] if len(event) > 2 else 0)])

    def test_times(self):
        self.assertEqual(self.judge([("release", 5, 1, 0), ("release", 5, 2, 0)]), [])
        self.form([("release", 5, 1, 0)], ("release", 4, 2, 0))
        self.form([("idle", 5)], ("idle", 4))
        self.assertEqual(self.judge([("release", -3, 1, -9)]), [])

    def test_form_of_idle_has_the_number_0(self):
        self.assertEqual(self.judge([("idle", 5), ("idle", 4)]), [("form", 1, 0)])

    def test_broken(self):
        self.form([], ("broken", 5, 1))
        self.form(self.BEGUN, ("broken", 9, 3))

    def test_begin_of_a_number_that_is_not_ready(self):
        self.form([], ("begin", 5, 1, 0))
        self.form([("release", 6, 3, 0)], ("begin", 6, 2, 0))
        # The job of the number has begun and not ended.
        trace = self.BEGUN + [("release", 9, 3, 1), ("begin", 9, 3, 1)]
        self.assertEqual(self.judge(trace), [("form", 3, 3)])
        trace = self.BEGUN + [("done", 9, 3, 0, 3), ("begin", 9, 3, 0)]
        self.assertEqual(self.judge(trace), [("form", 3, 3)])

    def test_begin_with_another_time(self):
        self.form([("release", 6, 3, 0)], ("begin", 6, 3, 1))
        trace = [("release", 6, 3, 0), ("release", 12, 3, 1), ("begin", 12, 3, 1)]
        self.assertEqual(self.judge(trace), [("form", 2, 3)])
        self.assertEqual(self.judge(trace[:2] + [("begin", 12, 3, 0), ("done", 13, 3, 0, 1), ("begin", 13, 3, 1)]), [])

    OF_TOP = [("switch", 20, 3), ("enter", 20, 3, 0), ("leave", 20, 3, 1, 1), ("link", 20, 3, 0, []), ("back", 20, 3, 0, []),
              ("in", 20, 3, 0, 1), ("out", 20, 3, 0, 1)]

    def test_events_of_a_number_that_is_not_on_top(self):
        for event in self.OF_TOP:
            self.assertEqual(self.judge(self.INSIDE + [event], ceilings=[9, 9]), [])
            for number in (0, 2, 4, -1, 10 ** 40):
                other = event[:2] + (number,) + event[3:]
                self.assertEqual(self.judge(self.INSIDE + [other], ceilings=[9, 9]), [("form", 3, number)])
        self.assertEqual(self.judge(self.BEGUN + [("done", 20, 2, 0, 1)]), [("form", 2, 2)])

    def test_events_without_a_job(self):
        for event in self.OF_TOP + [("done", 20, 3, 0, 1)]:
            self.assertEqual(self.judge([event], ceilings=[9, 9]), [("form", 0, 3)])
            zero = event[:2] + (0,) + event[3:]
            self.assertEqual(self.judge([zero], ceilings=[9, 9]), [("form", 0, 0)])

    def test_events_of_a_job_below(self):
        trace = self.INSIDE + [("release", 15, 10, 13), ("begin", 15, 10, 13)]
        for event in self.OF_TOP:
            self.assertEqual(self.judge(trace + [event], ceilings=[9, 9]), [("form", 5, 3)])

    def test_enter_and_leave_that_are_not_allowed(self):
        for event in (("enter", 20, 3, 1), ("enter", 20, 3, 2), ("enter", 20, 3, -1), ("leave", 20, 3, 0, 1), ("leave", 20, 3, 5, 1)):
            self.assertEqual(self.judge(self.INSIDE + [event], ceilings=[9, 9]), [("form", 3, 3)])
        self.assertEqual(self.judge(self.BEGUN + [("leave", 20, 3, 1, 1)], ceilings=[9, 9]), [("form", 2, 3)])
        trace = self.INSIDE + [("enter", 13, 3, 0)]
        self.assertEqual(self.judge(trace + [("leave", 20, 3, 1, 1)], ceilings=[9, 9]), [("form", 4, 3)])
        # An object that a job below is in.
        trace = self.INSIDE + [("release", 15, 10, 13), ("begin", 15, 10, 13), ("enter", 16, 10, 1)]
        self.assertEqual(self.judge(trace, ceilings=[9, 9]), [("form", 5, 10)])

    def test_done(self):
        self.assertEqual(self.judge(self.INSIDE + [("done", 20, 3, 0, 1)], ceilings=[9, 9]), [("form", 3, 3)])
        self.assertEqual(self.judge(self.BEGUN + [("done", 20, 3, 1, 1)]), [("form", 2, 3)])
        self.assertEqual(self.judge(self.BEGUN + [("done", 20, 3, 0, 1)]), [])

    def test_form_alone(self):
        """What else would be wrong about the event is not told, and nothing behind it."""
        trace = [("release", 6, 3, 0), ("release", 6, 5, 0), ("begin", 6, 3, 9), ("idle", 900)]
        self.assertEqual(self.judge(trace, within=1), [("form", 2, 3)])

    def test_idle(self):
        self.assertEqual(self.judge([("idle", 5), ("idle", 6)]), [])
        self.assertEqual(self.judge(self.BEGUN + [("idle", 9)]), [("idle", 2, 0)])
        self.assertEqual(self.judge(self.BEGUN + [("done", 9, 3, 0, 3), ("idle", 9)]), [])
        self.assertEqual(self.judge([("release", 6, 3, 0), ("idle", 9)]), [("idle", 1, 0), ("ignored", 1, 3)])
        # A number is ready, but it is not above the level of the job on top.
        self.assertEqual(self.judge(self.BEGUN + [("release", 9, 2, 7), ("idle", 9)]), [("idle", 3, 0)])

    def test_idle_while_the_next_job_of_the_number_waits(self):
        trace = self.BEGUN + [("release", 9, 3, 7)]
        self.assertEqual(self.judge(trace + [("idle", 9)]), [("idle", 3, 0)])
        self.assertEqual(self.judge(trace + [("switch", 9, 3)]), [])

    def test_ignored_at_a_begin(self):
        trace = [("release", 6, 3, 0), ("release", 12, 5, 0)]
        self.assertEqual(self.judge(trace + [("begin", 12, 5, 0)]), [])
        self.assertEqual(self.judge(trace + [("begin", 12, 3, 0)]), [("ignored", 2, 5)])
        # Not greater than the level of the job on top.
        trace = self.BEGUN + [("release", 9, 2, 0), ("begin", 9, 2, 0)]
        self.assertEqual(self.judge(trace), [("ignored", 3, 2)])
        for ceiling, found in ((3, []), (4, []), (5, [("ignored", 4, 5)]), (9, [("ignored", 4, 5)])):
            trace = self.INSIDE + [("release", 15, 5, 13), ("begin", 15, 5, 13)]
            self.assertEqual(self.judge(trace, ceilings=[0, ceiling]), found)

    def test_ignored_at_other_events(self):
        """A number above the level waits, and something else happens."""
        for event in self.OF_TOP:
            for ceiling, found in ((4, [("ignored", 4, 5)]), (5, []), (6, [])):
                trace = self.INSIDE + [("release", 15, 5, 13), event]
                self.assertEqual(self.judge(trace, ceilings=[0, ceiling]), found)
        trace = self.BEGUN + [("release", 9, 4, 7), ("done", 12, 3, 0, 3)]
        self.assertEqual(self.judge(trace), [("ignored", 3, 4)])
        self.assertEqual(self.judge(self.BEGUN + [("release", 9, 4, 7), ("release", 12, 9, 8), ("release", 13, 1, 8)]), [])

    def test_ignored_has_the_greatest_ready_number(self):
        trace = self.BEGUN + [("release", 9, 4, 7), ("release", 9, 7, 7), ("release", 9, 6, 7), ("switch", 12, 3)]
        self.assertEqual(self.judge(trace), [("ignored", 5, 7)])

    def test_ignored_again_and_again(self):
        trace = self.BEGUN + [("release", 9, 4, 7)] + [("switch", 12, 3)] * 3
        self.assertEqual(self.judge(trace), [("ignored", at, 4) for at in (3, 4, 5)])

    def test_level_before_the_event(self):
        """An enter is judged by the level ahead of it, and so is a leave."""
        trace = self.BEGUN + [("release", 9, 5, 7), ("enter", 12, 3, 0)]
        self.assertEqual(self.judge(trace, ceilings=[9]), [("ignored", 3, 5)])
        trace = self.INSIDE + [("release", 15, 5, 13), ("leave", 16, 3, 1, 4)]
        self.assertEqual(self.judge(trace, ceilings=[0, 9]), [])
        self.assertEqual(self.judge(trace + [("switch", 16, 3)], ceilings=[0, 9]), [("ignored", 5, 5)])

    def test_waited_with_one_lower_job(self):
        trace = self.INSIDE + [("release", 15, 5, 13), ("leave", 16, 3, 1, 4), ("begin", 16, 5, 13)]
        self.assertEqual(self.judge(trace, ceilings=[0, 9]), [])

    def two_lower(self, first, second, number, between=()):
        """Two jobs run, one after the other, while a number waits."""
        return [("release", 1, first, 0), ("begin", 1, first, 0), ("release", 2, number, 1), ("done", 3, first, 0, 1), *between,
                ("release", 4, second, 3), ("begin", 4, second, 3), ("done", 5, second, 3, 1), ("begin", 6, number, 1)]

    def waited(self, trace):
        return [row for row in self.judge(trace) if row[0] == "waited"]

    def test_waited_with_two_lower_jobs(self):
        self.assertEqual(self.waited(self.two_lower(2, 3, 5)), [("waited", 7, 5)])
        self.assertEqual(self.waited(self.two_lower(3, 2, 5)), [("waited", 7, 5)])

    def test_waited_with_two_jobs_of_one_number(self):
        self.assertEqual(self.waited(self.two_lower(2, 2, 5)), [("waited", 7, 5)])

    def test_waited_counts_lower_numbers_only(self):
        self.assertEqual(self.waited(self.two_lower(2, 7, 5)), [])
        self.assertEqual(self.waited(self.two_lower(7, 2, 5)), [])
        self.assertEqual(self.waited(self.two_lower(5, 2, 5)), [])
        self.assertEqual(self.waited(self.two_lower(7, 8, 5)), [])

    def test_waited_counts_from_the_release_on(self):
        trace = [("release", 1, 2, 0), ("begin", 1, 2, 0), ("done", 2, 2, 0, 1), ("release", 3, 5, 2), ("release", 4, 3, 2),
                 ("begin", 4, 3, 2), ("done", 5, 3, 2, 1), ("begin", 6, 5, 2)]
        self.assertEqual(self.waited(trace), [])
        # The release event counts, not the release time.
        trace = [("release", 1, 2, 0), ("begin", 1, 2, 0), ("done", 2, 2, 0, 1), ("release", 3, 3, 2), ("begin", 3, 3, 2),
                 ("release", 4, 5, 0), ("done", 5, 3, 2, 1), ("begin", 6, 5, 0)]
        self.assertEqual(self.waited(trace), [])

    def test_waited_counts_a_job_once(self):
        """The lower job is preempted by a greater one and goes on."""
        trace = [("release", 1, 2, 0), ("begin", 1, 2, 0), ("release", 2, 5, 1), ("release", 3, 9, 2), ("begin", 3, 9, 2),
                 ("done", 4, 9, 2, 1), ("done", 5, 2, 0, 1), ("begin", 6, 5, 1)]
        self.assertEqual(self.waited(trace), [])

    def test_waited_counts_a_job_that_comes_back_on_top(self):
        trace = [("release", 1, 2, 0), ("begin", 1, 2, 0), ("release", 2, 3, 1), ("begin", 2, 3, 1), ("release", 3, 5, 2),
                 ("done", 4, 3, 1, 1), ("begin", 5, 5, 2)]
        self.assertEqual(self.waited(trace), [("waited", 6, 5)])

    def test_waited_of_each_release(self):
        """The first of two waiting jobs of a number has waited for two lower jobs, the second one for one."""
        trace = self.two_lower(2, 3, 5)
        trace.insert(6, ("release", 4, 5, 4))
        self.assertEqual(self.waited(trace + [("done", 7, 5, 1, 1), ("begin", 7, 5, 4)]), [("waited", 8, 5)])
        trace = self.two_lower(2, 3, 5, [("release", 3, 5, 2)])
        self.assertEqual(self.waited(trace + [("done", 7, 5, 1, 1), ("release", 8, 2, 7), ("begin", 8, 2, 7), ("done", 9, 2, 7, 1),
                                              ("begin", 9, 5, 2)]), [("waited", 8, 5), ("waited", 13, 5)])

    def test_waited_across_idle_times(self):
        trace = self.two_lower(2, 3, 5, [("idle", 3)])
        self.assertEqual(self.waited(trace), [("waited", 8, 5)])

    def test_late(self):
        for time, found in ((50, []), (51, [("late", 2, 3)])):
            trace = self.BEGUN + [("done", time, 3, 0, 25)]
            self.assertEqual(self.judge(trace, within=50), found)
        self.assertEqual(self.judge([("release", 9, 3, 7), ("begin", 9, 3, 7), ("done", 58, 3, 7, 25)], within=50), [("late", 2, 3)])

    def test_late_of_each_number(self):
        trace = self.BEGUN + [("done", 51, 3, 0, 25)]
        self.assertEqual(self.judge(trace, within={3: 51, 4: 1}), [])

    def test_over(self):
        for own, found in ((25, []), (26, [("over", 2, 3)])):
            self.assertEqual(self.judge(self.BEGUN + [("done", 20, 3, 0, own)], bodies=25, reloads=9), found)

    def preempted(self, often, rest):
        """Number 3 is preempted some times."""
        trace = list(self.BEGUN)
        for at in range(often):
            time = 10 + 5 * at
            trace += [("release", time, 5, time), ("begin", time, 5, time), ("done", time + 1, 5, time, 1)]
        return trace + rest

    def test_over_with_preemptions(self):
        for often in range(4):
            for own, found in ((25 + 9 * often, []), (26 + 9 * often, [("over", 2 + 3 * often, 3)])):
                trace = self.preempted(often, [("done", 40, 3, 0, own)])
                self.assertEqual(self.judge(trace, bodies={3: 25, 5: 1}, reloads={3: 9, 5: 0}), found)

    def test_preemptions_of_the_job_on_top_only(self):
        """Number 3 lies below number 5 when that one is preempted."""
        trace = self.BEGUN + [("release", 8, 5, 8), ("begin", 8, 5, 8), ("release", 9, 7, 9), ("begin", 9, 7, 9), ("done", 10, 7, 9, 1),
                              ("done", 20, 5, 8, 12), ("done", 40, 3, 0, 13)]
        self.assertEqual(self.judge(trace, bodies={3: 10, 5: 10, 7: 10}, reloads=2), [("over", 8, 3)])
        self.assertEqual(self.judge(trace, bodies={3: 10, 5: 9, 7: 10}, reloads=3), [])

    def test_preemptions_of_each_job(self):
        trace = self.preempted(2, [("done", 40, 3, 0, 27), ("release", 41, 3, 41), ("begin", 41, 3, 41), ("done", 42, 3, 41, 11)])
        self.assertEqual(self.judge(trace, bodies=10, reloads=9), [("over", 11, 3)])

    def test_long(self):
        for own, found in ((7, []), (8, [("long", 3, 3)])):
            self.assertEqual(self.judge(self.INSIDE + [("leave", 20, 3, 1, own)], ceilings=[0, 3], sections={(3, 1): 7}, reloads=5), found)

    def test_long_with_preemptions_since_the_enter(self):
        """Those before the enter do not count, those in an inner section do."""
        nest = [("enter", 30, 3, 1), ("release", 31, 5, 30), ("begin", 31, 5, 30), ("done", 32, 5, 30, 1), ("enter", 33, 3, 0),
                ("release", 34, 5, 33), ("begin", 34, 5, 33), ("done", 35, 5, 33, 1)]
        for inner, outer, found in ((15, 20, []), (16, 20, [("long", 16, 3)]), (15, 21, [("long", 17, 3)]), (16, 21, [("long", 16, 3), ("long", 17, 3)])):
            trace = self.preempted(2, nest + [("leave", 40, 3, 0, inner), ("leave", 41, 3, 1, outer)])
            self.assertEqual(self.judge(trace, ceilings=[3, 4], sections={(3, 1): 10, (3, 0): 10}, reloads=5), found)

    def test_several_findings_of_one_event(self):
        trace = self.BEGUN + [("release", 9, 5, 7), ("done", 60, 3, 0, 30)]
        self.assertEqual(self.judge(trace, within={3: 50, 5: 90}, bodies=25),
                         [("ignored", 3, 5), ("late", 3, 3), ("over", 3, 3)])
        trace = self.two_lower(2, 3, 5)[:-1] + [("release", 6, 9, 5), ("begin", 6, 5, 1)]
        self.assertEqual([row for row in self.judge(trace) if row[1] == 8], [("ignored", 8, 9), ("waited", 8, 5)])
        trace = self.INSIDE + [("release", 15, 9, 7), ("leave", 60, 3, 1, 30)]
        self.assertEqual(self.judge(trace, ceilings=[0, 0], sections=25), [("ignored", 4, 9), ("long", 4, 3)])

    def test_late_at_the_end(self):
        for time, found in ((50, []), (51, [("late", 3, 3)])):
            self.assertEqual(self.judge(self.BEGUN + [("switch", time, 3)], within=50), found)
            self.assertEqual(self.judge([("release", 6, 3, 0), ("release", 6, 2, 6), ("release", time, 1, time)], within=50), found)

    def test_late_at_the_end_in_order(self):
        """By the numbers and then by the release times, waiting and begun jobs alike."""
        trace = [("release", 1, 9, 1), ("release", 2, 2, 0), ("release", 3, 5, 3), ("release", 4, 2, 1), ("begin", 4, 9, 1), ("release", 5, 9, 4),
                 ("release", 5, 1, 60), ("release", 99, 5, 2)]
        found = self.judge(trace, within=50)
        self.assertEqual(found, [("late", 8, number) for number in (2, 2, 5, 5, 9, 9)])
        self.assertEqual(self.judge(trace, within={1: 39, 2: 98, 5: 96, 9: 95}),
                         [("late", 8, number) for number in (2, 5, 9)])

    def test_no_late_at_the_end_behind_a_form(self):
        trace = [("release", 6, 3, 0), ("release", 99, 2, 0), ("broken", 99, 3)]
        self.assertEqual(self.judge(trace, within=50), [("form", 2, 3)])

    def test_jobs_that_have_ended_are_not_late_at_the_end(self):
        trace = self.BEGUN + [("done", 9, 3, 0, 3), ("idle", 1000)]
        self.assertEqual(self.judge(trace, within=50), [])

    def test_great_numbers(self):
        great = 10 ** 5000
        trace = [("release", great, 3, 0), ("begin", great, 3, 0), ("done", great + 1, 3, 0, great)]
        self.assertEqual(self.judge(trace), [("late", 2, 3), ("over", 2, 3)])
        self.assertEqual(self.judge(trace, within=great + 1, bodies=great), [])

    def test_arguments_stay(self):
        given = limits(within=1, ceilings=[9, 9], bodies=1, sections=1)
        trace = self.INSIDE + [("link", 12, 3, 40, [1, 2]), ("leave", 20, 3, 1, 8), ("done", 60, 3, 0, 30)]
        check_pure(self, judge, given, trace)
        check_pure(self, response_times, trace)


class ResponseTimesTest(unittest.TestCase):
    def test_document_example(self):
        self.assertEqual(response_times(JudgeTest.TRACE), [(3, 5, 43)])

    def test_no_jobs(self):
        self.assertEqual(response_times([]), [])
        self.assertEqual(response_times([("idle", 5), ("release", 11, 3, 5), ("begin", 11, 3, 5), ("broken", 12, 3)]), [])

    def test_several_jobs(self):
        trace = [("done", 10, 3, 4, 1), ("leave", 11, 2, 0, 5), ("done", 12, 1, 2, 1), ("done", 20, 3, 10, 2), ("done", 20, 3, 20, 2)]
        self.assertEqual(response_times(trace), [(3, 4, 6), (1, 2, 10), (3, 10, 10), (3, 20, 0)])

    def test_great_numbers(self):
        self.assertEqual(response_times([("done", 10 ** 5000, 3, 1, 1)]), [(3, 1, 10 ** 5000 - 1)])


def changed(chance, trace):
    """A trace with one change."""
    trace = list(trace)
    if not trace:
        return trace
    at = chance.randrange(len(trace))
    event = list(trace[at])
    kind = chance.randrange(9)
    if kind == 0:
        del trace[at]
    elif kind == 1:
        trace.insert(chance.randrange(len(trace) + 1), trace[at])
    elif kind == 2 and at:
        trace[at - 1], trace[at] = trace[at], trace[at - 1]
    elif kind == 3:
        place = chance.randrange(1, len(event))
        if place == 2:
            event[2] = chance.randrange(1, 11)
            trace[at] = tuple(event)
        elif type(event[place]) is int:
            event[place] += chance.choice([-1, 1, 5, 100])
            trace[at] = tuple(event)
    elif kind == 4:
        trace.insert(at, ("idle", event[1]))
    elif kind == 5:
        # A job ends later than it did.
        trace = trace[:at] + [row[:1] + (row[1] + 50,) + row[2:] for row in trace[at:]]
    elif kind == 6:
        releases = [place for place, row in enumerate(trace) if row[0] == "release"]
        if releases:
            place = chance.choice(releases)
            row = trace.pop(place)
            place = max(0, place - chance.randrange(1, 12))
            trace.insert(place, (row[0], trace[place][1] if trace else 0, *row[2:]))
    elif kind == 7:
        return trace[:at]
    else:
        rows = [place for place, row in enumerate(trace) if row[0] in ("leave", "done")]
        if rows:
            place = chance.choice(rows)
            trace[place] = trace[place][:4] + (trace[place][4] + chance.choice([1, 5, 40]),)
    return trace


def free_trace(chance, many):
    """Events of a right form in any order, as no kernel would have them."""
    trace, queues, jobs, now = [], {}, [], 0
    while len(trace) < many:
        now += chance.choice([0, 0, 1, 5, 30])
        kind = chance.choice(["release", "release", "begin", "begin", "enter", "leave", "switch", "done", "done", "idle"])
        waiting = [number for number, times in queues.items() if times and number not in [job[0] for job in jobs]]
        inside = [o for job in jobs for o in job[2]]
        if kind == "release":
            number, time = chance.randrange(1, 11), max(0, now - chance.randrange(20))
            queues.setdefault(number, []).append(time)
            trace.append((kind, now, number, time))
        elif kind == "begin" and waiting:
            number = chance.choice(waiting + [max(waiting)] * 3)
            jobs.append((number, queues[number].pop(0), []))
            trace.append((kind, now, *jobs[-1][:2]))
        elif kind == "idle" and chance.random() < 0.3:
            trace.append((kind, now))
        elif jobs:
            number, time, objects = jobs[-1]
            if kind == "switch":
                trace.append((kind, now, number))
            elif kind == "enter" and len(set(inside)) < 4:
                objects.append(chance.choice([o for o in range(4) if o not in inside]))
                trace.append((kind, now, number, objects[-1]))
            elif kind == "leave" and objects:
                trace.append((kind, now, number, objects.pop(), chance.randrange(40)))
            elif kind == "done" and not objects:
                trace.append((kind, now, number, time, chance.randrange(80)))
                jobs.pop()
    return trace


class SecondJudgeTest(unittest.TestCase):
    def test_free_traces(self):
        seen = {}
        for seed in range(400):
            chance = random.Random(seed)
            trace = free_trace(chance, chance.choice([10, 40, 80]))
            for _ in range(chance.choice([0, 0, 1, 2])):
                trace = changed(chance, trace)
            given = limits(ceilings=[chance.randrange(11) for _ in range(4)], within=chance.choice([30, 90, 300]),
                           bodies=chance.choice([20, 60]), sections=chance.choice([10, 30]), reloads=chance.choice([0, 9]))
            found = judge(given, trace)
            self.assertEqual(found, second_judge(given, trace))
            for kind in {row[0] for row in found} or {"fair"}:
                seen[kind] = seen.get(kind, 0) + 1
        self.assertLessEqual({"form", "idle", "ignored", "late", "long", "over", "waited"}, set(seen))
        self.assertGreater(min(count for kind, count in seen.items() if kind != "fair"), 40)

    def test_random_traces(self):
        seen = {}
        for seed in range(120):
            chance = random.Random(seed)
            program, processor = ValidMaker(seed).program(), random_processor(chance)
            system = load(program, processor)
            span = chance.choice([50, 500, 3000])
            releases = {number: accepted([chance.randrange(span) for _ in range(4)], 30) for number in system.every}
            trace = system.run(releases, [], 9000).events[:chance.choice([30, 90])]
            owns = [event[4] for event in trace if event[0] in ("leave", "done")] + [0]
            for _ in range(6):
                given = limits(within=chance.choice([100, 1000, MANY]), ceilings=[chance.randrange(11) for _ in program[3]] + [3],
                               bodies=chance.choice(owns), sections=chance.choice(owns), reloads=chance.choice([0, 0, 7]))
                if chance.random() < 0.5:
                    given = limits(ceilings=system.setup.ceilings, within=chance.choice([1000, MANY]))
                for _ in range(chance.randrange(3)):
                    trace = changed(chance, trace)
                found = judge(given, trace)
                self.assertEqual(found, second_judge(given, trace))
                for kind in {row[0] for row in found} or {"fair"}:
                    seen[kind] = seen.get(kind, 0) + 1
        self.assertGreater(min(seen[kind] for kind in ("fair", "form", "idle", "ignored", "late", "long", "over")), 5)


if __name__ == "__main__":
    unittest.main()
