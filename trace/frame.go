package trace

import (
	"couplant/api"
	"couplant/check"
)

// The bytes of a frame: its letters, its version, its elements and its
// position stand in front of the samples, its check behind them.
const (
	frameLetters  = "CP"
	versionAt     = 2
	elementsAt    = 3
	positionAt    = 4
	samplesAt     = 8
	bytesOfSample = 2
	bytesOfSum    = 2
)

// bytesOf returns how many bytes a frame of some elements has.
func bytesOf(elements int) int {
	return samplesAt + samplesOf(elements)*bytesOfSample + bytesOfSum
}

// FormatFrame returns the bytes of a frame.
func FormatFrame(f api.TraceFrame) (string, api.Errno) {
	if e := check.First(positionError(f.Position), matrixError(f.Matrix)); e != api.OK {
		return "", e
	}
	b := append([]byte(frameLetters), api.FrameVersion, byte(f.Matrix.Elements))
	b = appendNumber(b, f.Position, samplesAt-positionAt)
	for _, x := range f.Matrix.Buffer {
		b = appendNumber(b, int(x), bytesOfSample)
	}
	return string(appendNumber(b, sumOf(string(b)), bytesOfSum)), api.OK
}

// ParseFrame returns the frame with some bytes.
func ParseFrame(s string) (api.TraceFrame, api.Errno) {
	if e := bytesError(s); e != api.OK {
		return api.TraceFrame{}, e
	}
	f := api.TraceFrame{Position: int(int32(numberOf(s[positionAt:samplesAt])))}
	f.Matrix.Elements = int(s[elementsAt])
	for at := samplesAt; at < len(s)-bytesOfSum; at += bytesOfSample {
		x := int16(numberOf(s[at : at+bytesOfSample]))
		f.Matrix.Buffer = append(f.Matrix.Buffer, float32(x))
	}
	if e := check.First(positionError(f.Position), matrixError(f.Matrix)); e != api.OK {
		return api.TraceFrame{}, e
	}
	return f, api.OK
}

// bytesError returns the error of the bytes of a frame, but for what they tell
// of its position and its samples.
func bytesError(s string) api.Errno {
	if len(s) < samplesAt || s[:len(frameLetters)] != frameLetters {
		return api.ErrSyntax
	}
	elements := int(s[elementsAt])
	e := check.First(
		check.Unless(s[versionAt] == api.FrameVersion, api.ErrKind),
		check.Within(elements, 1, api.MaxElements),
		check.Unless(len(s) == bytesOf(elements), api.ErrShape),
	)
	if e != api.OK {
		return e
	}
	end := len(s) - bytesOfSum
	return check.Unless(sumOf(s[:end]) == numberOf(s[end:]), api.ErrSum)
}

// Frames returns the frames that stand one behind the other, and how many
// bytes they have.
func Frames(s string) ([]api.TraceFrame, int, api.Errno) {
	if len(s) > api.MaxFrames {
		return nil, 0, api.ErrLarge
	}
	var frames []api.TraceFrame
	end := 0
	for {
		first := firstBytes(s[end:])
		f, e := ParseFrame(first)
		if e != api.OK {
			return frames, end, api.OK
		}
		frames = append(frames, f)
		end += len(first)
	}
}

// firstBytes returns the bytes that a frame at the beginning has, or as many
// of them as are there.
func firstBytes(s string) string {
	if len(s) < samplesAt {
		return s
	}
	return s[:min(len(s), bytesOf(int(s[elementsAt])))]
}

// appendNumber appends the bytes of a number. Shifts keep the sign: a number
// below 0 comes out as if all that the bytes can tell were added.
func appendNumber(b []byte, n, size int) []byte {
	for place := size - 1; place >= 0; place-- {
		b = append(b, byte(n>>(8*place)))
	}
	return b
}

// numberOf returns the number of some bytes, not below 0.
func numberOf(s string) int {
	n := 0
	for _, b := range []byte(s) {
		n = n<<8 | int(b)
	}
	return n
}

// sumOf returns the check of the bytes in front of it.
func sumOf(s string) int {
	sum := 1
	for _, b := range []byte(s) {
		sum = (257*sum + int(b) + 1) % api.FramePrime
	}
	return sum
}
