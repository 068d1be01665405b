"""Betstall: bets called off on what weighs nothing, and a hall of holders who deal in them."""
