"""Wattkeep: a power grid that is balanced, cheapest and safe behind any fall, with papers."""
