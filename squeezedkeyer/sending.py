"""With how few events given kinds of marks, or a text, can be sent."""

from squeezedkeyer.checks import check_number_from
from squeezedkeyer.errors import Impossible, InvalidText, TooLarge
from squeezedkeyer.letters import check_code, check_gaps
from squeezedkeyer.plans import Plans, links_of
from squeezedkeyer.records import MOST_EVENTS
from squeezedkeyer.rules import check_rules
from squeezedkeyer.runs import check_kinds
from squeezedkeyer.ways import slacks, widths


def fewest_events(rules, kinds, slack):
    """The least number of events for some kinds with a slack, None if there is no such record."""
    check_rules(rules)
    check_kinds(kinds)
    check_number_from(slack, 0)
    return fewest_for_kinds(rules, kinds, slack)


def greatest_slack(rules, kinds, events):
    """The greatest slack for some kinds with at most so many events, None if there is no such record."""
    check_rules(rules)
    check_kinds(kinds)
    check_number_from(events, 0)
    found = [slack for many, slack in all_trades(rules, kinds) if many <= events]
    return found[-1] if found else None


def trade(rules, kinds):
    """The numbers of events, each with the slack it allows, that are worth it."""
    check_rules(rules)
    check_kinds(kinds)
    return all_trades(rules, kinds)


def send(rules, kinds, slack):
    """A record with some kinds and a slack, with as few events as possible."""
    check_rules(rules)
    check_kinds(kinds)
    check_number_from(slack, 0)
    return shortest_record(Plans(rules, slack), kinds[0][0][0], links_for_kinds(kinds, slack))


def fewest_for_text(rules, code, gaps, text, slack):
    """The least number of events for a text with a slack, None if there is no such record."""
    check_text_call(rules, code, gaps, text, slack)
    if text == "":
        return 0
    links = links_for_text(rules, code, gaps, text, slack)
    return Plans(rules, slack).fewest(code[text[0]][0], links)


def send_text(rules, code, gaps, text, slack):
    """A record that reads as a text, with a slack and as few events as possible."""
    check_text_call(rules, code, gaps, text, slack)
    if text == "":
        return []
    links = links_for_text(rules, code, gaps, text, slack)
    return shortest_record(Plans(rules, slack), code[text[0]][0], links)


def fewest_for_kinds(rules, kinds, slack):
    """The least number of events for some kinds, None if there is no such record."""
    return Plans(rules, slack).fewest(kinds[0][0][0], links_for_kinds(kinds, slack))


def links_for_kinds(kinds, slack):
    """The links for some kinds; the keyer may be idle anywhere, for as long as the slack asks for."""
    anyhow = (True, 2 * slack)
    return links_of(kinds, anyhow, [anyhow] * (len(kinds) - 1))


def all_trades(rules, kinds):
    """The ascending tuples (events, slack), as trade returns them."""
    found = []
    for slack in sorted(set([0] + [border for width in widths(rules) for border in slacks(width)])):
        many = fewest_for_kinds(rules, kinds, slack)
        if many is None:
            break
        # As many events are worth nothing with a lesser slack.
        found = [(events, other) for events, other in found if events < many] + [(many, slack)]
    return found


def shortest_record(plans, kind, links):
    """A record of as few events as possible, pressed at the tick 0."""
    many = plans.fewest(kind, links)
    if many is None:
        raise Impossible("no record is so steady")
    if many > MOST_EVENTS:
        raise TooLarge(MOST_EVENTS)
    return plans.record(kind, links, 0)


def check_text_call(rules, code, gaps, text, slack):
    """Check the arguments of the calls with a text."""
    check_rules(rules)
    check_code(code)
    check_gaps(rules, gaps)
    check_text(code, text)
    check_number_from(slack, 0)


def check_text(code, text):
    """Raise InvalidText unless a value is a text of letters of a code."""
    if not isinstance(text, str):
        raise InvalidText("a text is a string")
    if text == "":
        return
    for word in text.split(" "):
        if word == "" or not all([letter in code for letter in word]):
            raise InvalidText("a text has letters of the code, with single spaces between words")


def links_for_text(rules, code, gaps, text, slack):
    """The links for a text that is not empty.

    A gap of marks of two presses can get longer or shorter by twice the slack.
    """
    pause = rules[2]
    letter, word = gaps
    within = (True, 2 * slack if pause + 4 * slack < letter else None)
    letters = (False, letter - pause + 2 * slack if letter + 4 * slack < word else None)
    spaces = (False, word - pause + 2 * slack)
    words = [(code[sign], 1) for sign in text if sign != " "]
    # What stands behind each letter but the last one.
    between = [spaces if sign == " " else letters for one, sign in zip(text, text[1:]) if one != " "]
    return links_of(words, within, between)
