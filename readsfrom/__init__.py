"""Programs of few hands over shared boxes, told by who reads whom."""
