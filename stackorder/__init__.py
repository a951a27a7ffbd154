"""Stackorder: rules that change an amount in an order that is only partly fixed."""
