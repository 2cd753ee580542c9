"""Sortings of sheets into groups within groups."""

from rightname.basics import is_number, is_whole
from rightname.errors import NoPath, NoSheet, NoSorting

# A path has as many places as its group's rank is deep: genus, species, form.
FORM_DEPTH = 3


def sorting_list(sorting):
    if not isinstance(sorting, list):
        raise NoSorting("a sorting is a list of genus groups")
    seen = {}
    return [group_list(group, 1, seen) for group in sorting]


def group_list(group, depth, seen):
    if not isinstance(group, list) or len(group) == 0:
        raise NoSorting("a group is a list that is not empty")
    if depth == FORM_DEPTH:
        return sheet_list(group, seen)
    return [group_list(part, depth + 1, seen) for part in group]


def sheet_list(sheets, seen):
    found = []
    for sheet in sheets:
        if not is_number(sheet):
            raise NoSorting("a form group holds sheets alone")
        if found and sheet <= found[-1]:
            raise NoSorting("each sheet of a form group is greater than the one ahead")
        if sheet in seen:
            raise NoSorting("no sheet lies in two form groups")
        seen[sheet] = True
        found.append(sheet)
    return found


def groups(sorting):
    return groups_in((), sorting_list(sorting))


def groups_in(path, parts):
    found = []
    for place, part in enumerate(parts):
        inner = path + (place,)
        if len(inner) == FORM_DEPTH:
            found.append((inner, list(part)))
        else:
            inside = groups_in(inner, part)
            found.append((inner, sheets_of(inside)))
            found.extend(inside)
    return found


def sheets_of(told):
    found = []
    for path, sheets in told:
        if len(path) == FORM_DEPTH:
            found.extend(sheets)
    return sorted(found)


def refuse_sheet(sheet):
    if not is_number(sheet):
        raise NoSheet("a sheet is a whole number from 1 to 10 ** 9")


def path_of(sorting, sheet):
    told = groups(sorting)
    refuse_sheet(sheet)
    for path, sheets in told:
        if len(path) == FORM_DEPTH and sheet in sheets:
            return path
    return None


def without(parts, sheet, depth):
    if depth == FORM_DEPTH:
        return [other for other in parts if other != sheet]
    left = [without(part, sheet, depth + 1) for part in parts]
    return [part for part in left if part]


def taken(sorting, sheet):
    if path_of(sorting, sheet) is None:
        raise NoSheet("this sheet lies nowhere")
    return without(sorting_list(sorting), sheet, 0)


def laid(sorting, sheet, path):
    parts = sorting_list(sorting)
    refuse_sheet(sheet)
    left = without(parts, sheet, 0)
    if not is_path(path):
        raise NoPath("a path is a tuple of one to three places from 0 on")
    put_sheet(left, sheet, path)
    return left


def is_path(thing):
    if not isinstance(thing, tuple) or not 1 <= len(thing) <= FORM_DEPTH:
        return False
    return all([is_whole(place) and place >= 0 for place in thing])


def put_sheet(parts, sheet, path):
    above = parts
    for place in path[:-1]:
        if place >= len(above):
            raise NoPath("only the last place of a path may be the count of the groups there")
        above = above[place]
    last = path[-1]
    if last == len(above):
        above.append(new_group(sheet, len(path)))
    elif last < len(above) and len(path) == FORM_DEPTH:
        above[last] = sorted(above[last] + [sheet])
    else:
        raise NoPath("this path leads neither to a form group nor to the end of the groups there")


def new_group(sheet, depth):
    group = [sheet]
    for above in range(depth, FORM_DEPTH):
        group = [group]
    return group
