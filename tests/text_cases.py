"""The functions of texts, theses, commands and desks, each with arguments that are right."""

from leadrules import commands, desk, errors, papers, readers, texts
from leadrules.books import Book
from leadrules.tables import Table
from tests import calendar_cases, plan_cases, proof_cases, wrong
from tests.cases import X, Y, picture
from tests.proof_cases import SERVED, case, so

# For each word a thesis; its truth hangs on what is told.
LEADS = Book([("a", 0, 2)], [("lead", "a", 1, 3), ("quick", "b", "a")])
BROKEN = Book([("a", 0, 5), ("a", 1, 4)], [])
EMPTY = Book([], [])


def theses():
    """The list of pairs of theses, the first one of each being true, for both words of each line."""
    late = ("le", ("num", 5), ("on", "a", ("num", 3)))
    plan = plan_cases.house()
    week = {"c": Table([0, 2])}
    order = ("le", ("on", "a", X), ("on", "a", ("add", 1, X)))
    return [
        (("for all", order, EMPTY), ("broken", order, EMPTY)),
        (("broken", late, LEADS), ("for all", late, LEADS)),
        (("kept", LEADS), ("not kept", LEADS)), (("not kept", BROKEN), ("kept", BROKEN)),
        (("within", SERVED, X, 3, LEADS), ("beyond", SERVED, X, 3, LEADS)),
        (("beyond", SERVED, X, 2, LEADS), ("within", SERVED, X, 2, LEADS)),
        (("beyond", SERVED, X, 9, EMPTY), ("within", SERVED, X, 9, EMPTY)),
        (("bounded", SERVED, X, LEADS), ("loose", SERVED, X, LEADS)),
        (("loose", SERVED, X, EMPTY), ("bounded", SERVED, X, EMPTY)),
        (("same", ("late", X, Y), ("late", Y, X), EMPTY), ("not same", ("late", X, Y), ("late", Y, X), EMPTY)),
        (("not same", SERVED, ("add", 1, X), LEADS), ("same", SERVED, ("add", 1, X), LEADS)),
        (("not same", X, ("late", X, Y), EMPTY), ("same", X, ("late", X, Y), EMPTY)),
        (("follows", ("lead", "b", None, 3), LEADS), ("open", ("lead", "b", None, 3), LEADS)),
        (("open", ("quick", "a", "b"), LEADS), ("follows", ("quick", "a", "b"), LEADS)),
        (("enough", [("a", 0, 2)], ("le", ("on", "a", ("num", 0)), ("num", 2)), LEADS),
         ("not enough", [("a", 0, 2)], ("le", ("on", "a", ("num", 0)), ("num", 2)), LEADS)),
        (("not enough", [], ("le", ("on", "a", ("num", 0)), ("num", 2)), LEADS),
         ("enough", [], ("le", ("on", "a", ("num", 0)), ("num", 2)), LEADS)),
        (("known for all", calendar_cases.even(), EMPTY, week), ("known broken", calendar_cases.even(), EMPTY, week)),
        (("known broken", late, LEADS, week), ("known for all", late, LEADS, week)),
        (("settled", [("a", 3)], late, EMPTY), ("unsettled", [("a", 3)], late, EMPTY)),
        (("unsettled", [("a", 7)], late, EMPTY), ("settled", [("a", 7)], late, EMPTY)),
        (("decides", plan, "window", "glass", EMPTY), ("never decides", plan, "window", "glass", EMPTY)),
        (("never decides", plan, "window", "door", EMPTY), ("decides", plan, "window", "door", EMPTY)),
        (("never later", plan, "wood", plan, "door", plan_cases.book()),
         ("perhaps later", plan, "wood", plan, "door", plan_cases.book())),
        (("perhaps later", plan, "door", plan, "wood", EMPTY), ("never later", plan, "door", plan, "wood", EMPTY)),
    ]


def not_theses():
    """Values that are no theses: words, parts, kinds of parts, and functions that raise errors."""
    order = ("le", SERVED, X)
    long = proof_cases.saying()
    for _ in range(60):
        long = ("not", long)
    plan = plan_cases.house()
    return [
        None, True, 3, "for all", "kept", [], (), {}, ("for all",), ("For all", order, EMPTY), ("", order, EMPTY),
        ["for all", order, EMPTY], (True, order, EMPTY), (None, order, EMPTY), (["for all"], order, EMPTY),
        ("for all", order), ("for all", order, EMPTY, EMPTY), ("for all", X, EMPTY), ("for all", order, ([], [])),
        ("for all", order, None), ("broken", None, EMPTY), ("broken", EMPTY, order), ("for all", long, EMPTY),
        ("kept", None), ("kept", ([], [])), ("kept",), ("not kept", EMPTY, EMPTY), ("not kept", Book),
        ("within", SERVED, X, True, LEADS), ("within", SERVED, X, "3", LEADS), ("within", SERVED, X, None, LEADS),
        ("within", SERVED, order, 3, LEADS), ("beyond", SERVED, X, 3, BROKEN), ("beyond", SERVED, X, LEADS),
        ("within", ["day", "x"], X, 3, LEADS), ("bounded", SERVED, X, BROKEN), ("loose", SERVED, X, 3, LEADS),
        ("loose", order, X, LEADS), ("same", SERVED, order, EMPTY), ("same", None, None, EMPTY), ("not same", X, X),
        ("not same", X, X, {}), ("follows", ("quick", "a", "a"), LEADS), ("follows", ("quick", "a", "b"), BROKEN),
        ("open", order, LEADS), ("open", ["quick", "a", "b"], LEADS), ("enough", [("a", 0, 3)], order, LEADS),
        ("enough", ("a", 0, 2), order, LEADS), ("enough", [], X, LEADS), ("not enough", [], order, BROKEN),
        ("known for all", order, EMPTY), ("known for all", order, EMPTY, {"x": Table([0])}),
        ("known for all", order, EMPTY, None), ("known broken", order, LEADS, {"a": Table([0])}),
        ("known broken", order, EMPTY, {"c": Table([0] * 15)}), ("known broken", order, {}, EMPTY),
        ("settled", [("a", 3), ("a", 3)], order, EMPTY), ("settled", [("a", day) for day in range(5)], order, EMPTY),
        ("settled", order, [], EMPTY), ("unsettled", None, order, EMPTY), ("unsettled", [], long, EMPTY),
        ("decides", plan, "window", "window", EMPTY), ("decides", plan, "window", "roof", EMPTY),
        ("decides", {}, "window", "glass", EMPTY), ("never decides", plan, "window", "Glass", EMPTY),
        ("never decides", plan, "window", "glass", None), ("never later", plan, "wood", plan, EMPTY),
        ("never later", {"p": ("a", 0, ["p"])}, "p", plan, "wood", EMPTY),
        ("perhaps later", plan, "wood", plan, "roof", EMPTY), ("perhaps later", plan, True, plan, "wood", EMPTY),
        ("perhaps later", plan, "wood", plan, "wood", "book"), ("legs", []), ("sure", ("ring", [])),
    ]


def text_cases():
    """The cases of texts and readers; the errors of texts tell lines, so they stand by themselves."""
    paper = ("soon", 3, ("ring", [(0, 1, -2), (1, 0, 1)]), ("pair", 4, 2, wrong.RING, wrong.RING, wrong.RING))
    return [
        case(texts, texts.written, {"thing": so()}, {"thing": (errors.InvalidThing, wrong.NOT_THINGS)}),
        case(texts, texts.written, {"thing": proof_cases.book()}),
        case(texts, texts.written, {"thing": Table([0, 7, 7, 7, 7, 7, 7])}),
        case(texts, texts.picture_text, {"picture": picture()}),
        case(texts, texts.tree_text, {"tree": paper}, {"tree": (errors.InvalidTree, wrong.NOT_TREE_FORMS)}),
        case(texts, texts.words_of, {"thing": so()},
             {"thing": (errors.InvalidThing, wrong.NOT_THINGS + [Table([0]), Book([], [])])}),
        case(readers, readers.read, {"text": texts.written(so())}),
        case(readers, readers.read, {"text": texts.written(proof_cases.book())}),
        case(readers, readers.read_picture, {"text": texts.picture_text(picture())}),
        case(readers, readers.read_tree, {"text": texts.tree_text(paper)}),
    ]


def thesis_cases():
    """The cases of theses, commands and desks."""
    not_thesis = {"thesis": (errors.InvalidThesis, not_theses())}
    found = [case(papers, papers.words, {}), case(papers, papers.is_thesis, {"value": theses()[0][0]}),
             case(commands, commands.is_command, {"value": "saw a 3 9"}),
             case(commands, commands.is_deed, {"value": "saw a 3 9"}),
             case(desk, desk.tried, {"desk": desk.Desk(EMPTY), "action": len})]
    for at, (thesis, other) in enumerate(theses()):
        wrongs = not_thesis if at == 0 else None
        found += [case(papers, call, {"thesis": told}, wrongs) for told in (thesis, other)
                  for call in (papers.is_true, papers.contrary_thesis, papers.paper_of)]
        found.append(case(papers, papers.is_paper, {"thesis": thesis, "value": papers.paper_of(thesis)}, wrongs))
    return found


def all_cases():
    """The list of all cases."""
    return text_cases() + thesis_cases()
