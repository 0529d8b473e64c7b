package series

import "orangebox/api"

const (
	maxValue = 1 << 40 // of a line, on both sides of 0
	maxA     = 1 << 20
)

// CheckCalibration returns what is wrong with a calibration.
func CheckCalibration(c api.Calibration) api.Errno {
	if !isDen(c.Den) {
		return api.ErrRange
	}
	if len(c.Lines) == 0 {
		return api.ErrEmpty
	}
	if len(c.Lines) > MaxLines {
		return api.ErrSize
	}
	if e := checkLines(c.Lines); e != api.OK {
		return e
	}
	if !isNumber(c.Low) || !isNumber(c.High) || c.Low > c.High {
		return api.ErrRange
	}
	return api.OK
}

// Apply returns the number for a value, if there is one that can be.
func Apply(c api.Calibration, v int) (int, bool, api.Errno) {
	if e := CheckCalibration(c); e != api.OK {
		return 0, false, e
	}
	n, ok := apply(c, v)
	return n, ok, api.OK
}

// Nearest returns the value whose number is nearest to n.
func Nearest(c api.Calibration, n int) (int, api.Errno) {
	if e := CheckCalibration(c); e != api.OK {
		return 0, e
	}
	if !isNumber(n) {
		return 0, api.ErrRange
	}
	nearest, distance, some := 0, 0, false
	for _, line := range c.Lines {
		from, to := possible(line, c.Low, c.High)
		if from > to {
			continue
		}
		v := nearestFrom(line, from, to, n)
		if d := size(numberOf(line, v) - n); !some || d < distance {
			nearest, distance, some = v, d, true
		}
	}
	if !some {
		return 0, api.ErrNone
	}
	return nearest, api.OK
}

// Grain returns how far the numbers of neighbouring values are apart at most.
func Grain(c api.Calibration) (int, api.Errno) {
	if e := CheckCalibration(c); e != api.OK {
		return 0, e
	}
	grain := 0
	for _, line := range c.Lines {
		if line.From < line.To {
			grain = max(grain, size(line.A))
		}
	}
	return grain, api.OK
}

// Calibrate returns the series with the numbers that its values mean.
func Calibrate(s api.Series, c api.Calibration) (api.Series, api.Errno) {
	if e := Check(s); e != api.OK {
		return api.Series{}, e
	}
	if e := CheckCalibration(c); e != api.OK {
		return api.Series{}, e
	}
	if s.Den != 1 {
		return api.Series{}, api.ErrForm
	}
	told := api.Series{Den: c.Den, Samples: make([]api.Sample, len(s.Samples))}
	for i, x := range s.Samples {
		told.Samples[i] = calibrated(x, c)
	}
	return told, api.OK
}

func checkLines(l []api.Line) api.Errno {
	for i, line := range l {
		if !isLine(line) {
			return api.ErrRange
		}
		if i > 0 && line.From <= l[i-1].To {
			return api.ErrOrder
		}
	}
	for _, line := range l {
		if !isNumber(numberOf(line, line.From)) || !isNumber(numberOf(line, line.To)) {
			return api.ErrRange
		}
	}
	return api.OK
}

func isLine(line api.Line) bool {
	return isWithin(line.From, maxValue) && isWithin(line.To, maxValue) && line.From <= line.To &&
		isWithin(line.A, maxA) && isNumber(line.B)
}

func numberOf(line api.Line, v int) int {
	return line.A*v + line.B
}

func apply(c api.Calibration, v int) (int, bool) {
	for _, line := range c.Lines {
		if v < line.From || v > line.To {
			continue
		}
		if n := numberOf(line, v); n >= c.Low && n <= c.High {
			return n, true
		}
	}
	return 0, false
}

func calibrated(x api.Sample, c api.Calibration) api.Sample {
	if !hasNumber(x) {
		return x
	}
	n, ok := apply(c, x.N)
	if !ok {
		return api.Sample{At: x.At, Mark: api.MarkWrong}
	}
	return api.Sample{At: x.At, N: n, Mark: x.Mark}
}

// possible returns the first and the last value of a line whose number is from low to high; the first one is above the last one if there is none.
func possible(line api.Line, low, high int) (from, to int) {
	if line.A == 0 && (line.B < low || line.B > high) {
		return 1, 0
	}
	if line.A == 0 {
		return line.From, line.To
	}
	first, last := low, high
	if line.A < 0 {
		first, last = high, low
	}
	from = max(line.From, ceil(first-line.B, line.A))
	to = min(line.To, Floor(last-line.B, line.A))
	return from, to
}

// nearestFrom returns the value from one to another one whose number is nearest to n, of equally near ones the least.
func nearestFrom(line api.Line, from, to, n int) int {
	if line.A == 0 {
		return from
	}
	exact := Floor(n-line.B, line.A)
	lesser := min(max(exact, from), to)
	greater := min(max(exact+1, from), to)
	if size(numberOf(line, greater)-n) < size(numberOf(line, lesser)-n) {
		return greater
	}
	return lesser
}
