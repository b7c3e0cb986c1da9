"""Markthenpurge: logs behind range purges with delayed deletion."""
