"""Houses that tests begin with."""

from hueshade.house import House

TWO = ((0, 0, 1, 0, 0), (9, 0, 0, 1, 0))
THREE = ((0, 0, 10, 0, 0), (9, 0, 0, 10, 0), (4, 4, 0, 0, 10))


def house_of(*deeds):
    house = House()
    for deed in deeds:
        house.do(deed)
    return house
