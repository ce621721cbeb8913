"""Webs made by shapes, with matings, paintings and labels that fit."""
