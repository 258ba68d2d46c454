"""The interface: names, arguments, and the file in which each thing is defined."""

import importlib
import inspect
import unittest

FUNCTIONS = {
    "numbers": ("check_number(value)", "is_below(one, two)", "least_of(row)", "number_between(low, high, name)"),
    "stretches": ("check_stretch(value)", "check_address(value)", "stretch_holds(stretch, address)",
                  "stretches_of(address)", "key_of(stretch, number)", "left_out(stretch, others)"),
    "wire": ("encode_letter(letter)", "encode_stream(letters)", "decode_letter(octets)", "decode_stream(octets)"),
    "rows": ("begun_row(serial, number)", "row_of(state)"),
    "books": ("book_of(past)", "check_past(past)"),
    "worlds": ("run_deeds(deeds)",),
    "rings": ("handings(world, address)", "ring_in(pairs)", "hand_order(pairs)", "hand_ways(world, address, name)"),
    "nets": ("question(past, address, m)",),
    "judges": ("net_serves(past, address, m, run, ring)",),
    "alike": ("are_alike(one, two)", "parting_of(one, two)", "parting_serves(one, two, parting)", "short_past(past)"),
    "forms": ("check_rule(value)",),
    "kinds": ("kinds_of_m()", "kinds_of_x(kind)"),
    "rules": ("rule_lets(rule, book, m)", "judge_rule(rule)", "rule_net_serves(rule, past, m, run, ring)"),
    "fields": ("one_round(field, turn, between)",),
    "waits": ("held_reports(field)", "wait_row(field, x, i, stretch)", "wait_row_serves(field, x, i, stretch, row)"),
    "dark": ("opened_nodes(field, stretch)", "arrow_chain(field, stretch, i)", "houseless_parts(field, stretch)", "dark_bound(n)"),
    "calm": ("distances(field, stretch)", "prices_hold(field, stretch, rows)", "rest_bound(field, stretch)", "at_rest(field)"),
    "tables": ("least_table(table)", "table_prices_hold(table, rows, prices)", "travel(field, i, address)", "node_table(field, i)"),
    "journal": ("row_line(row)", "read_journal(text)", "opened_journal(rows)"),
    "stops": ("started_book(name, rows, links, elder)", "check_story(story)", "story_book(story)", "needed_rows(book, rows, flushed, event)",
              "story_fault(story)", "stop_net(story, at)", "stop_net_serves(story, at, net)"),
    "whole": ("all_answers(world, address)", "told_bounds(n, distance, cost)"),
}

CLASSES = {
    "errors": {
        "OwnError": (), "BadNumber(at)": (), "BadStretch(at)": (), "BadOctets(at)": (), "BadPast(at)": (),
        "BadDeed(at)": (), "BadRule(at)": (), "BadRow(at)": (), "BadText(at)": (), "Refused(value)": (),
    },
    "rows": {"Row()": ("told(serial, number)", "acked(k)", "least()", "since(k)", "newest()", "state()", "copied()")},
    "books": {"Book(name)": (
        "add_event(event)", "near()", "v(address, x)", "l(address, x)", "up(address)", "may(address, m)",
        "let(address)", "why(address, m)", "room(address, m)", "copied()", "row_states(x)")},
    "worlds": {"World()": ("do(deed)", "names()", "links()", "view(name)", "book(name)", "under_way()")},
    "nodes": {"Node(name, homes)": ("rises(x, cost)", "falls(x)", "turns(x, cost)", "comes(x, letter)", "target(stretch)",
                                    "number(stretch)", "told(stretch, x)", "book()")},
    "tables": {"Table(rows)": ("longest(address)", "listed()")},
    "journal": {"Journal()": ("write(row)", "flush()", "cuts()", "rows_left(many)", "whole_text()")},
    "stops": {"Keeper(name)": ("do(event)", "story()", "let(address)", "book()")},
    "desk": {"Desk()": ("say(line)",)},
    "fields": {"Field(homes)": ("do(deed)", "under_way()", "links()", "arrows(stretch)", "past(name)", "deeds()", "node(name)")},
}


def parameters(call, behind):
    names = list(inspect.signature(call).parameters)[behind:]
    return "(" + ", ".join(names) + ")"


class Interface(unittest.TestCase):

    def module(self, name):
        return importlib.import_module("maypoint." + name)

    def test_functions(self):
        for file, rows in FUNCTIONS.items():
            for row in rows:
                name = row.partition("(")[0]
                function = getattr(self.module(file), name)
                self.assertEqual(function.__module__, "maypoint." + file)
                self.assertEqual(name + parameters(function, 0), row)

    def test_classes(self):
        for file, rows in CLASSES.items():
            for row, methods in rows.items():
                name = row.partition("(")[0]
                kind = getattr(self.module(file), name)
                self.assertEqual(kind.__module__, "maypoint." + file)
                if "(" in row:
                    self.assertEqual(name + parameters(vars(kind)["__init__"], 1), row)
                for method in methods:
                    own = vars(kind)[method.partition("(")[0]]
                    self.assertEqual(own.__name__ + parameters(own, 1), method)
