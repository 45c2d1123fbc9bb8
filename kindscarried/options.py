"""Which data an option makes, and the options of each data."""


def option_table(datas):
    """The dict from each option to (data, index of the option in it)."""
    table = {}
    for data in datas:
        for index, choice in enumerate(data[2]):
            table[choice[0]] = (data, index)
    return table


def data_table(datas):
    """The dict from the word of each data to the data."""
    return {data[0]: data for data in datas}
