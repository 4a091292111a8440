"""What can be measured of a line: boxes, areas and turns."""
