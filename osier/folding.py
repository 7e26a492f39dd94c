"""Folds: a cell, or two points with shapes, become one point with a shape."""

from osier.books import OWN_LETTERS, need_items
from osier.letters import are_inner, bind, own_targets
from osier.matching import comes_by_folds
from osier.webs import CELL, pruned_web, unmet


def folds(book, web):
    """The webs that come of one fold each: by points, at a cell by shapes, then by rules."""
    need_items(book, web)
    return all_folds(book, web)


def all_folds(book, web):
    """The folds of a web that fits the book."""
    leads = lead_counts(web)
    return [fold for point in range(1, len(web) + 1) for fold in point_folds(book, web, point, leads)]


def lead_counts(web):
    """How many names and targets of items lead to each target."""
    counts = {}
    for name, target in web.name_rows():
        counts[target] = counts.get(target, 0) + 1
    for word, targets in web.item_rows():
        for target in targets:
            counts[target] = counts.get(target, 0) + 1
    return counts


def point_folds(book, web, point, leads):
    """The folds at the point, leads being the web's counts."""
    items = web.item_rows()
    word, targets = items[point - 1]
    if word == CELL:
        return cell_folds(book, web, point, leads)
    if is_joined(book, items, point, leads):
        return [with_item(web, point, items[targets[0] - 1])]
    return []


def cell_folds(book, web, point, leads):
    """The folds at a point with a cell, by all shapes and their rules."""
    items = web.item_rows()
    found = []
    for shape, points, rules in book.shape_rows():
        for rule in rules:
            own = rule_points(items, point, rule, OWN_LETTERS[:points], leads)
            if own is not None:
                found.append(with_item(web, point, (shape, own[1:])))
    return found


def rule_points(items, point, rule, own_letters, leads):
    """The points of the shape whose opening by the rule has made the cell and its inner points, or None."""
    left, right, inner = rule
    bound = own_targets((point,))
    if not bind(bound, (left, right), items[point - 1][1]):
        return None
    inner_points = [bound[letters[0]] for name, letters in inner]
    if not are_inner(inner_points, (point,)):
        return None
    for inner_point, (name, letters) in zip(inner_points, inner):
        word, targets = items[inner_point - 1]
        if word != name or not bind(bound, letters[1:], targets):
            return None
    own = tuple([bound[letter] for letter in own_letters])
    if are_inner(inner_points, own) and are_private(items, point, inner_points, leads):
        return own
    return None


def are_private(items, point, inner_points, leads):
    """True where nothing leads to the inner points but the cell at the point and their own items."""
    targets = [target for at in (point, *inner_points) for target in items[at - 1][1]]
    return all([targets.count(inner_point) == leads[inner_point] for inner_point in inner_points])


def is_joined(book, items, point, leads):
    """True where the stretch at the point, and what it leads into, can be one."""
    word, targets = items[point - 1]
    # A shape of one or three points leads into none; so there is just one target here.
    if len(targets) != 1 or not are_inner(targets, (point,)):
        return False
    target = targets[0]
    other = items[target - 1][0]
    # A target that its own item leads to has more than one lead, too.
    return other != CELL and leads[target] == 1 and book.leads_into(word, other)


def with_item(web, point, item):
    """The web with this item at the point, without the points that are come to no longer."""
    items = web.item_rows()
    items[point - 1] = item
    return pruned_web(web.name_rows(), items)


def folded(book, web):
    """What comes of making the first fold at a point to which no name leads, until there is none."""
    need_items(book, web)
    fold = first_nameless_fold(book, web)
    while fold is not None:
        web = fold
        fold = first_nameless_fold(book, web)
    return web


def first_nameless_fold(book, web):
    """The first fold at a point to which no name leads, or None."""
    leads = lead_counts(web)
    named = {target: True for name, target in web.name_rows()}
    for point in range(1, len(web) + 1):
        if point not in named:
            found = point_folds(book, web, point, leads)
            if found:
                return found[0]
    return None


def forms(book, web):
    """All webs that come of the web by folds and have no fold, by their texts."""
    need_items(book, web)
    met = {repr(web): True}
    last = {}
    waiting = [web]
    while waiting:
        on_the_way = waiting.pop()
        found = all_folds(book, on_the_way)
        if not found:
            last[repr(on_the_way)] = on_the_way
        waiting.extend(unmet(found, met))
    return [last[text] for text in sorted(list(last))]


def comes_to(book, web, others):
    """True where the web is one of the others, or comes to one of them by folds."""
    need_items(book, web)
    for other in others:
        need_items(book, other)
    return comes_by_folds(book, web, others)
