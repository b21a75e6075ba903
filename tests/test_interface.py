import importlib
import inspect
import unittest

# Each name of the interface that has landed, with its arguments.
INTERFACE = {
    "clocks": {
        "clock_text": "(minute)", "minute_of": "(text)", "moment_of": "(day, minute)", "day_and_minute": "(moment)",
        "moment_text": "(moment)", "moment_by": "(text)"},
    "rules": {
        "Rule": "()", "Week": "(bits)", "Span": "(first, last, rule)", "Each": "(length, starts)",
        "Either": "(one, other)", "Both": "(one, other)", "But": "(days, rule)", "Rule.runs": "(self, day)",
        "Rule.words": "(self)", "Rule.weight": "(self)", "Rule.depth": "(self)", "next_day": "(rule, day, most=400)"},
    "ruletext": {"rule_text": "(rule)", "rule_of": "(text)"},
    "net": {
        "Net": "()", "Net.add_stop": "(self, name, zone, change)", "Net.add_walk": "(self, one, other, minutes)",
        "Net.add_rule": "(self, name, rule)", "Net.add_ticket": "(self, name, price, lasts, zones)",
        "Net.add_trip": "(self, name, rule, calls)", "Net.stops": "(self)", "Net.rules": "(self)",
        "Net.tickets": "(self)", "Net.trips": "(self)", "Net.walks": "(self)", "Net.zone": "(self, stop)",
        "Net.change": "(self, stop)", "Net.rule": "(self, name)", "Net.ticket": "(self, name)",
        "Net.rule_name": "(self, trip)", "Net.calls": "(self, trip)"},
    "reader": {"net_of": "(text)"},
    "writer": {"net_text": "(net)"},
    "feet": {"Feet": "(net)", "Feet.minutes": "(self, one, other)", "Feet.way": "(self, one, other)"},
    "runs": {"runs_between": "(net, begin, end, notices=None)"},
    "rounds": {
        "rounds": "(net, stop, begin, most=3, notices=None)", "reached": "(net, stop, begin, most=3, notices=None)",
        "earliest": "(net, one, other, begin, most=3, notices=None)"},
    "tickets": {"zone_bits": "(zones)", "zones_of": "(net, trip, board, off)", "fits": "(net, ticket, bits)"},
    "fares": {"price_of": "(net, rides, bought)", "least_tickets": "(net, rides)"},
    "labels": {
        "no_worse": "(one, other)", "follow": "(net, label, end, notices=None)",
        "least_labels": "(net, beginnings, most=3, notices=None)"},
    "plans": {"gone": "(net, plan, notices=None)"},
    "fronts": {
        "front": "(net, one, other, begin, most=3, notices=None)",
        "front_from": "(net, beginnings, other, most=3, notices=None)"},
    "notices": {
        "Notices": "(net)", "Notices.late": "(self, trip, day, call, minutes)", "Notices.out": "(self, trip, day)",
        "Notices.back": "(self, trip, day)", "Notices.moments": "(self, trip, day)", "Notices.told": "(self)"},
    "watch": {
        "Watch": "(net, one, other, begin, most=3)", "Watch.late": "(self, trip, day, call, minutes)",
        "Watch.out": "(self, trip, day)", "Watch.back": "(self, trip, day)", "Watch.front": "(self)",
        "Watch.made": "(self)"},
    "travel": {
        "where_at": "(net, plan, moment, notices=None)", "beginnings_at": "(net, plan, moment, notices=None)",
        "legs_to": "(net, plan, moment, beginning, notices=None)"},
    "desk": {
        "Desk": "(net)", "Desk.now": "(self)", "Desk.wait": "(self, moment)", "Desk.names": "(self)",
        "Desk.enter": "(self, name, plan)", "Desk.plan": "(self, name)", "Desk.where": "(self, name)",
        "Desk.late": "(self, trip, day, call, minutes)", "Desk.out": "(self, trip, day)",
        "Desk.back": "(self, trip, day)", "Desk.again": "(self, name, other=None, most=3)",
        "Desk.take": "(self, name, place, other=None, most=3)"},
    "shell": {"answered": "(desk, line)", "played": "(text)"},
}


class InterfaceTests(unittest.TestCase):
    def test_names_and_arguments(self):
        for module, names in INTERFACE.items():
            for name, arguments in names.items():
                with self.subTest(module=module, name=name):
                    found = importlib.import_module("roadbook." + module)
                    for part in name.split("."):
                        found = getattr(found, part)
                    self.assertEqual(str(inspect.signature(found)), arguments)


if __name__ == "__main__":
    unittest.main()
