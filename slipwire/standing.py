"""How a wire stands: both its posts, and what is under way between them."""

from slipwire.errors import NoByte
from slipwire.post import Post

ROLES = ("caller", "keeper")
OTHERS = {"caller": "keeper", "keeper": "caller"}


def first_stand(mask, most, every):
    """How a wire stands ahead of all deeds."""
    posts = {role: Post(role, mask=mask, most=most, every=every) for role in ROLES}
    return Stand(posts, {role: [] for role in ROLES}, {role: [] for role in ROLES}, False)


def event_copy(event):
    return tuple([list(part) if isinstance(part, list) else part for part in event])


class Stand:
    """The posts by their roles; what is under way to each of them, and what each was told."""

    def __init__(self, posts, ways, events, broken):
        self.posts = posts
        self.ways = ways
        self.events = events
        self.broken = broken

    def twin(self):
        """A Stand of its own that is as this one."""
        # The lists of ways and events are only ever put anew, never changed, so both may hold the same ones.
        posts = {role: post.twin() for role, post in self.posts.items()}
        return Stand(posts, dict(self.ways), dict(self.events), self.broken)

    def let_go(self, role, many):
        """How many bytes of that post are under way now."""
        if self.broken:
            return 0
        codes = self.posts[role].pull(many=many)
        other = OTHERS[role]
        self.ways[other] = self.ways[other] + codes
        return len(codes)

    def let_come(self, role, many):
        """The events that the next so many bytes bring to that post."""
        way = self.ways[role]
        far = len(way) if many is None else many
        events = self.posts[role].put(way[:far])
        self.ways[role] = way[far:]
        self.events[role] = self.events[role] + [event_copy(event) for event in events]
        return events

    def let_run(self):
        """The pairs (role, event) of all that goes and comes, until there is nothing more."""
        pairs = []
        moved = True
        while moved:
            moved = False
            for role in ROLES:
                other = OTHERS[role]
                self.let_go(role, None)
                moved = moved or len(self.ways[other]) > 0
                pairs += [(other, event) for event in self.let_come(other, None)]
        return pairs

    def bend_way(self, role, at, byte):
        """The byte of that place under way to that post is this one from now on; refused with NoByte."""
        way = self.ways[role]
        if not 0 <= at < len(way):
            raise NoByte(at)
        self.ways[role] = way[:at] + [byte] + way[at + 1:]

    def break_ways(self):
        """The pair of the talks in which a letter is begun, to the caller and to the keeper."""
        self.broken = True
        self.ways = {role: [] for role in ROLES}
        return self.posts["caller"].begun(), self.posts["keeper"].begun()
