"""Wakesafe: values kept through sleep."""
