"""Programs made shorter."""

from markrun.dropping import idle_of_one_kind, without
from markrun.leading import led_on
from markrun.plainly import plain


def short(items):
    before = None
    now = items
    while now != before:
        before = now
        led = led_on(before)
        now = without(led, idle_of_one_kind(led))
    return plain(now)
