"""Recipes: what houses of a book are made by."""
from signcleave.errors import BadRecipe, CleaveError, HouseError, NoMake
from signcleave.growing import leaned
from signcleave.house import House
from signcleave.makers import of_columns, of_web
from signcleave.minors import beside, drawn, dual, moved, struck, turned

COUNTS = {
    "signs": 4, "columns": 2, "web": 3, "dual": 2, "struck": 3, "drawn": 3, "turned": 3, "moved": 3, "beside": 3,
    "leaned": 3,
}


def checked_recipe(recipe):
    """The recipe, with tuples for all lists; refuses a tuple that is none."""
    if len(recipe) == 0 or COUNTS.get(recipe[0]) != len(recipe):
        raise BadRecipe("a recipe is a word and as many things as belong to it")
    return _frozen(recipe)


def names_used(recipe):
    """The names that the recipe uses, in its order."""
    if recipe[0] in ("signs", "columns", "web"):
        return ()
    return recipe[1:] if recipe[0] == "beside" else recipe[1:2]


def made(recipe, houses):
    """The house by the recipe, from the dict of the houses that it uses."""
    try:
        return _made_of_names(recipe, houses) if names_used(recipe) else _made_alone(recipe)
    except (CleaveError, HouseError) as refusal:
        raise NoMake(refusal.word)


def _made_alone(recipe):
    word = recipe[0]
    if word == "signs":
        return House(recipe[1], recipe[2], recipe[3])
    if word == "columns":
        return of_columns(recipe[1])
    return of_web(recipe[1], recipe[2])


def _made_of_names(recipe, houses):
    word, house = recipe[0], houses[recipe[1]]
    if word == "dual":
        return dual(house)
    if word == "struck":
        return struck(house, recipe[2])
    if word == "drawn":
        return drawn(house, recipe[2])
    if word == "turned":
        return turned(house, recipe[2])
    if word == "moved":
        return moved(house, recipe[2])
    if word == "beside":
        return beside(house, houses[recipe[2]])
    return leaned(house, recipe[2])


def _frozen(worth):
    """The same with tuples for all lists, so that nobody can change it later."""
    return tuple([_frozen(part) for part in worth]) if isinstance(worth, (list, tuple)) else worth
