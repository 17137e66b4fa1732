"""Waxcloth: wax, dips and boilings on cloth."""
