"""Listpost: names that stand for many people, and whom a letter to them reaches."""
