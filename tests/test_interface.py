"""The names, arguments and places of what the document's interface lists."""

import importlib
import inspect

from tests.helpers import Case

FUNCTIONS = {
    "worlds": ("is_word(thing)", "is_world(thing, size)", "is_pattern(thing)", "fits(words, pattern)",
               "all_worlds(size, word)"),
    "deeds": ("is_deed(thing, size)", "done(world, deed)"),
    "plays": ("show_of(act, start, answers)",),
    "deedtext": ("write_deed(deed)", "read_deed(text)"),
    "patterntext": ("write_pattern(pattern)", "read_pattern(text)"),
    "craftlines": ("write_craft(craft)", "read_craft(lines)"),
    "actlines": ("write_act(act)", "read_act(craft, lines)"),
    "plotlines": ("write_plot(plot)", "read_plot(craft, lines)"),
    "scriptlines": ("write_script(script)", "read_script(craft, lines)"),
    "scriptplays": ("played(script, start, answers)",),
    "compiled": ("act_of(script)",),
    "senses": ("sense(size, deed)",),
    "deedpairs": ("short_deed(size, deed)",),
    "smooth": ("judge_smooth(act, start, table)",),
    "ending": ("judge_ending(act, start, table)",),
    "wishes": ("judge_keeps(act, start, wish, table)", "judge_never(act, start, wish, table)"),
    "bounds": ("judge_bound(act, start, table)",),
    "unseen": ("judge_unseen(act, start, habits, eyes, table)",),
    "waiting": ("judge_waiting(habits, gesture, manner, patter, watchers, table)",),
    "blindwait": ("judge_blind(habits, gesture, manner, patter, eyes, table)",),
    "gaze": ("rehearsed(gaze, deeds)",),
    "wonders": ("judge_wonder(act, start, guest, table)",),
    "calm": ("judge_calm(act, start, guest, table)",),
    "uncaught": ("judge_uncaught(act, start, guest, table)",),
    "spoilers": ("spoilers(act, start, held, most)",),
    "showings": ("fewest_showings(act, start, held, known, length)",),
    "classes": ("settled(act, held, known)",),
    "actpairs": ("judge_pairs(first, start, second, other, table)",),
    "judging": ("judge_prices(plot, start, table)", "judge_losses(plot, start, table)",
                "judge_dear(plot, start, table)"),
    "written": ("written(plot, start)",),
    "hidings": ("hidings(plot, start, extras, most)",),
    "lessons": ("lessons(plot, start)",),
    "slipgames": ("judge_slips(plot, risks, start, most, table)",),
    "borne": ("borne(plot, risks, start)", "exercises(plot, risks, start)"),
    "judgestands": ("judge_stand(act, start, guest, wish, challenges, most, table)",
                    "judge_catch(act, start, guest, wish, challenges, most, table)"),
    "bearing": ("bears(act, start, guest, wish, challenges)",),
    "needed": ("needed_lots(act, start)",),
    "programmes": ("order_value(evening, order, world=None)", "cheapest_programme(evening)"),
    "residence": ("judge_worlds(evening, table)", "judge_delays(evening, table)"),
    "forces": ("judge_force(force, table)",),
    "steady": ("steady(force)",),
    "journal": ("write_journal(house)", "read_journal(lines)", "taken_up(lines)"),
}
VERDICT = ("__bool__(self)", "__len__(self)", "__iter__(self)")
CLASSES = {
    "craft.Craft": ("__init__(self, size, gestures, sleights=())", "__contains__(self, x)", "__len__(self)",
                    "__iter__(self)", "__eq__(self, other)", "meaning_of(self, gesture)", "places_of(self, gesture)",
                    "manners_of(self, gesture)", "deed_of(self, gesture, manner)", "price_of(self, gesture, manner)",
                    "spots_of(self, gesture, manner)", "stroke(self, world, gesture, manner='')",
                    "without(self, *sleights)"),
    "acts.Act": ("__init__(self, craft, cues)", "__len__(self)", "__getitem__(self, at)", "__iter__(self)",
                 "__eq__(self, other)", "__add__(self, other)", "followers(self, standing)", "rest_at(self, standing)",
                 "run_from(self, standing)"),
    "plays.Play": ("__init__(self, act, start, answers='')", "__len__(self)", "__getitem__(self, at)", "__iter__(self)",
                   "__eq__(self, other)", "__add__(self, other)"),
    "plots.Plot": ("__init__(self, craft, cues)", "__len__(self)", "__getitem__(self, at)", "__iter__(self)",
                   "__eq__(self, other)", "options(self, standing)", "behind(self, standing, option)",
                   "is_broken(self, standing)"),
    "scripts.Script": ("__init__(self, craft, body)", "__len__(self)", "__eq__(self, other)", "statements(self)"),
    "deedpairs.DeedPair": ("__init__(self, size, first, second)", "__bool__(self)"),
    "standings.Standings": ("__init__(self, act, start)", "__len__(self)", "__iter__(self)", "__contains__(self, x)",
                            "__getitem__(self, at)"),
    "smooth.Smooth": ("__init__(self, act, start)",) + VERDICT,
    "ending.Ending": ("__init__(self, act, start)",) + VERDICT,
    "wishes.Keeps": ("__init__(self, act, start, wish)",) + VERDICT,
    "wishes.Reaches": ("__init__(self, act, start, wish)",) + VERDICT,
    "bounds.Bounded": ("__init__(self, act, start)",) + VERDICT,
    "habits.Habits": ("__init__(self, craft, rules)", "__eq__(self, other)", "behind(self, gesture, eye)",
                      "spread(self, gesture, eyes)", "is_safe(self, gesture, manner, eye)"),
    "unseen.Unseen": ("__init__(self, act, start, habits, eyes)",) + VERDICT,
    "waiting.Waiting": ("__init__(self, habits, gesture, manner, patter, watchers=1)", "__len__(self)",
                        "__iter__(self)", "value(self, eyes)", "plan(self, eyes)", "worst(self, eyes, gesture)"),
    "blindwait.BlindWait": ("__init__(self, habits, gesture, manner, patter, eyes)",) + VERDICT,
    "gaze.Gaze": ("__init__(self, habits, lot)", "__eq__(self, other)", "see(self, *gestures)",
                  "safe_for(self, gesture, manner)", "copy(self)"),
    "gaze.Aside": ("__init__(self, gaze)", "__enter__(self)", "__exit__(self, kind, value, trace)"),
    "guests.Guest": ("__init__(self, craft, held, known=(), most=0)", "__eq__(self, other)", "mind(self, seen)",
                     "behind(self, mind, event)", "is_within(self, other)"),
    "explained.Explained": ("__init__(self, guest, seen)", "__contains__(self, x)", "__len__(self)"),
    "wonders.Wonder": ("__init__(self, act, start, guest)",) + VERDICT,
    "calm.Calm": ("__init__(self, act, start, guest)",) + VERDICT,
    "uncaught.Uncaught": ("__init__(self, act, start, guest)",) + VERDICT,
    "fillings.Fillings": ("__init__(self, act, held, known)", "__len__(self)", "__iter__(self)",
                          "__contains__(self, x)", "__getitem__(self, at)", "filled(self, filling)",
                          "show(self, filling, answers)"),
    "lasting.Lasting": ("__init__(self, act, start, held, known)", "fitting(self, *shows)",
                        "parting(self, filling)") + VERDICT,
    "classes.Classes": ("__init__(self, act, held, known, length)", "__len__(self)", "__iter__(self)"),
    "actpairs.ActPair": ("__init__(self, first, start, second, other)",) + VERDICT,
    "making.Making": ("__init__(self, plot, start)", "__getitem__(self, at)", "delay(self, standing)",
                      "forced(self, standing, times)", "method(self, standing)") + VERDICT,
    "risks.Risks": ("__init__(self, craft, fails)", "__eq__(self, other)", "fail_of(self, sleight)",
                    "practised(self, *sleights)"),
    "slipgames.SlipGame": ("__init__(self, plot, risks, start, most)", "__getitem__(self, at)", "pick(self, position)",
                           "out(self, position, manner, slipped=False)",
                           "performance(self, answers, *, slips=())") + VERDICT,
    "stands.Stand": ("__init__(self, act, start, guest, wish, challenges, *, most=None)", "delay(self, situation)",
                     "answered(self, situation, answer)", "meetings(self, situation, gesture)",
                     "reply(self, situation, gesture)", "catch(self, situation)") + VERDICT,
    "machines.Machine": ("__init__(self, act, start)", "__len__(self)", "__iter__(self)", "__getitem__(self, at)",
                         "__eq__(self, other)", "show(self, answers)"),
    "renaming.Renaming": ("__init__(self, places, kinds=())", "__eq__(self, other)", "__mul__(self, other)",
                          "__call__(self, world)", "of_place(self, place)", "of_kind(self, kind)", "of_deed(self, deed)",
                          "of_pattern(self, pattern)", "of_craft(self, craft)", "of_act(self, act)", "of_plot(self, plot)",
                          "of_seen(self, craft, seen)", "undone(self)"),
    "evenings.Evening": ("__init__(self, pieces, pockets, start)", "__len__(self)", "__iter__(self)",
                         "__contains__(self, x)", "is_good(self, name, world)", "ends(self, name, world)",
                         "preparing(self, world, goal)", "value(self, world, left)", "prepared(self, world, left, name)"),
    "residence.Residence": ("__init__(self, evening)",) + VERDICT,
    "forces.Force": ("__init__(self, many, outs, questions)", "__eq__(self, other)"),
    "forces.ForceGame": ("__init__(self, force)", "value(self, left, still)", "plan(self, left, still)",
                         "reading(self, left, still, number, part)") + VERDICT,
    "house.House": ("__init__(self)", "keep_craft(self, name, craft)", "keep_act(self, name, of, act)",
                    "keep_plot(self, name, of, plot)", "strike(self, name)", "undo(self)", "redo(self)",
                    "__getitem__(self, at)", "__contains__(self, x)", "__len__(self)", "__iter__(self)",
                    "craft_of(self, name)", "copy(self)", "__eq__(self, other)"),
}
PROPERTIES = {
    "craft.Craft": ("face", "arts"),
    "acts.Act": ("strokes", "secrets"),
    "plays.Play": ("events", "rest", "shown", "last", "manners", "price"),
    "waiting.Waiting": ("trap",),
    "gaze.Gaze": ("lot",),
    "guests.Guest": ("beginning",),
    "risks.Risks": ("risky",),
    "stands.Stand": ("beginning",),
    "house.House": ("deeds",),
}


def module_of(name):
    return importlib.import_module("shownempty." + name)


class TestInterface(Case):

    def listed(self, told, holder, name):
        """The holder has just this function, with these arguments, defined in the file of this name."""
        thing = vars(holder)[told.partition("(")[0]]
        self.assertEqual(thing.__name__ + str(inspect.signature(thing)), told)
        self.assertEqual(thing.__module__, "shownempty." + name)

    def test_functions(self):
        for name, functions in FUNCTIONS.items():
            for told in functions:
                self.listed(told, module_of(name), name)

    def test_classes_and_their_methods(self):
        for path, methods in CLASSES.items():
            name, _, title = path.partition(".")
            self.assertEqual(getattr(module_of(name), title).__module__, "shownempty." + name)
            for told in methods:
                self.listed(told, getattr(module_of(name), title), name)

    def test_properties(self):
        for path, names in PROPERTIES.items():
            name, _, title = path.partition(".")
            for told in names:
                self.assertIsInstance(vars(getattr(module_of(name), title))[told], property)

    def test_static_and_class_methods(self):
        methods = vars(module_of("guests").Guest)
        self.assertIsInstance(methods["cost"], staticmethod)
        self.assertIsInstance(methods["layman"], classmethod)
        self.assertEqual(str(inspect.signature(methods["cost"].__func__)), "(mind)")
        self.assertEqual(str(inspect.signature(methods["layman"].__func__)), "(cls, craft, *worlds)")
