"""Lazyspill: how few words a stack in few registers must move."""
