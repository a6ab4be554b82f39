package funcs

import "testing"

// P12.1: numbers of which Exp would tell something else, were it reckoned in one of the other ways that are named.
func TestExpJustSo(t *testing.T) {
	holdRows(t, "Exp", []row{
		// each fma as a product and a sum, both rounded
		{0xc0f9e37c, 0x39d4e3ef}, {0xc16cbae3, 0x34c97861}, {0xc16e00d3, 0x34ba0f43}, {0xc16e3d14, 0x34b757b7},
		// n cut towards nought
		{0xc17e0292, 0x3408d62f}, {0xc17e72a0, 0x340524d9}, {0xc1f85ab8, 0x2914515a}, {0xc1f8956d, 0x29102064},
		// n of a middle away from nought
		{0x41bf4f02, 0x50b504f6}, {0x41f6c2aa, 0x55b50501}, {0x4222324a, 0x5cb504f6}, {0x42490340, 0x63b50519},
		// n always cut down
		{0xc1ffab9a, 0x286dbc3d}, {0xc1ff6076, 0x28769ea8}, {0xc1ff95b3, 0x28704a9a}, {0xc2532db4, 0x19641683},
		// n always the one above
		{0xc179a452, 0x3433caa3}, {0xc27c4690, 0x1200f62e}, {0xc2788550, 0x12a4dbd1}, {0xc278d290, 0x1298e11d},
		// r of the lower part of the logarithm first
		{0xc1f3fc7f, 0x2980061f}, {0xc1f29c2c, 0x29980e65}, {0xc1f2ab98, 0x2996ea5f}, {0xc1fd9ac6, 0x2899e36e},
		// r of one fma by the logarithm of 2
		{0xc1f4e1c6, 0x2964eddb}, {0xc1f50766, 0x2960c301}, {0xc1f5ac2c, 0x294f62fe}, {0xc27e0698, 0x11a685d0},
		// the last but one fma in two
		{0xbfde2390, 0x3e348cf9}, {0xbeeb93f4, 0x3f219720}, {0xbed8aa80, 0x3f27abaf}, {0xbedab01e, 0x3f270283},
		// the last fma in two
		{0xc0c47949, 0x3b0d40a9}, {0xc166de61, 0x35114ddf}, {0xc1641032, 0x352d26cb}, {0xc1d975f9, 0x2bdc5f0b},
		// a subnormal answer rounded twice
		{0xc2b172a0, 0x001ff781}, {0xc2b172c8, 0x001ff501}, {0xc2b172fa, 0x001ff1e3}, {0xc2b17313, 0x001ff053},
		// no n of 128
		{0x42b0c0a8, 0x7f3505b5}, {0x42b0e1c0, 0x7f411bfb}, {0x42b0ffa8, 0x7f4cb991}, {0x42b0c0c0, 0x7f350e32},
		// no subnormal answers
		{0xc2c1eba6, 0x0000022b}, {0xc2c22adc, 0x000001ea}, {0xc2c25b30, 0x000001be}, {0xc2c11b7a, 0x00000341},
		// no n of -150
		{0xc2cf4044, 0x00000001}, {0xc2cf404a, 0x00000001}, {0xc2cf4050, 0x00000001}, {0xc2cf4056, 0x00000001},
	})
}

// P12.2: numbers of which Log would tell something else, were it reckoned in one of the other ways that are named.
func TestLogJustSo(t *testing.T) {
	holdRows(t, "Log", []row{
		// each fma as a product and a sum, both rounded
		{0x3fb4cd4f, 0x3eb0d49f}, {0x4051ded4, 0x3f980383}, {0x020f7260, 0xc2aa494e}, {0x0222c197, 0xc2aa08a5},
		// m halved at 0x3fb504f3, too
		{0x3fb504f3, 0x3eb17217}, {0x3f3504f3, 0xbeb17219}, {0x42b504f3, 0x40902cb3}, {0x3b3504f3, 0xc0bc893a},
		// m never halved
		{0x3ff12345, 0x3f222273}, {0x40600001, 0x3fa05a8a}, {0x7affceae, 0x42a4f7b0},
		// y by s * z
		{0x3fb4cd4f, 0x3eb0d49f}, {0x3e4ebc27, 0xbfcccdec}, {0x02a172e1, 0xc2a8a9e2}, {0x020abf93, 0xc2aa5a5b},
		// y by s * q
		{0x3e4ebc27, 0xbfcccdec}, {0x4127f904, 0x40167a45}, {0x03a13b4d, 0xc2a5e4c9}, {0x0296b1da, 0xc2a8cd2d},
		// y as a product and a sum
		{0x3fb4cd4f, 0x3eb0d49f}, {0x4051ded4, 0x3f980383}, {0x028ea9b6, 0xc2a8e938}, {0x0222c197, 0xc2aa08a5},
		// y by s times all
		{0x471a4840, 0x412957e8}, {0x479b808c, 0x41348f4b}, {0x493ba781, 0x4158d67f}, {0x4a9531e8, 0x4176707b},
		// the lower part of the logarithm last
		{0x7e6ef274, 0x42ae8904}, {0x7e6f6851, 0x42ae8a00}, {0x7e7034df, 0x42ae8bb5}, {0x7e7262ff, 0x42ae9055},
		// one fma by the logarithm of 2
		{0x7cbcd9e2, 0x42a9e7e0}, {0x7db94a86, 0x42aca3ea}, {0x7e0eeb74, 0x42ad81de}, {0x7e512318, 0x42ae44ca},
		// k's inner fma as a product and a sum
		{0x637ea193, 0x42479add}, {0x6380c4e8, 0x4247a67d}, {0x1b7ea4ca, 0xc247a5cb}, {0x6900bf7c, 0x426625ef},
	})
}

// P12.3: numbers of which Tanh would tell something else, were it reckoned in one of the other ways that are named.
func TestTanhJustSo(t *testing.T) {
	holdRows(t, "Tanh", []row{
		// each fma as a product and a sum, both rounded
		{0xbf3b4500, 0xbf1fbe2a}, {0xbecd0eb7, 0xbec2c110}, {0xbe484c1e, 0xbe45c804}, {0xbe52ade1, 0xbe4fc18c},
		// a quotient of Exp less 1
		{0xbfb38c04, 0xbf62ccb6}, {0xbfdd6220, 0xbf70628a}, {0xbfe2a1f2, 0xbf719476}, {0xbfe4e7f5, 0xbf7211ca},
		// a quotient of 1 less Exp
		{0xbfef6006, 0xbf741f72}, {0xbfefd0f2, 0xbf7433d9}, {0xbff0f3c0, 0xbf7467c7}, {0xbf724dad, 0xbf3cfa3e},
		// Exp of a, squared
		{0xbf7d4d21, 0xbf41d359}, {0xbef55318, 0xbee420bc}, {0xbef7e8f8, 0xbee63204}, {0xbeef0e28, 0xbedf136e},
	})
}

// P12.3: numbers of which Sigmoid would tell something else, were it reckoned in one of the other ways that are named.
func TestSigmoidJustSo(t *testing.T) {
	holdRows(t, "Sigmoid", []row{
		// each fma as a product and a sum, both rounded
		{0xc162bbb5, 0x353c2900}, {0xc15b1ea3, 0x35976907}, {0xc1602a1c, 0x355cedb9}, {0xc16190be, 0x354a6851},
		// Exp of x by 1 and it
		{0xc250966c, 0x19d9f635}, {0xc27f76c0, 0x116877ba}, {0xc2ca65f6, 0x00000000}, {0xc2ca95ae, 0x00000000},
		// by Tanh
		{0xc06a76ca, 0x3ccccfef}, {0xc06a86ba, 0x3ccc9e3b}, {0xc06b1314, 0x3ccaea7d}, {0xc06b58e2, 0x3cca1316},
		// Exp of x, where x is below nought
		{0xc1f5ac2c, 0x294f62fd}, {0xc26af07e, 0x1519a6b3}, {0xc26a5b24, 0x1531c72f}, {0xc2c8e95c, 0x00000000},
	})
}

// P12.3: numbers of which Gelu would tell something else, were it reckoned in one of the other ways that are named.
func TestGeluJustSo(t *testing.T) {
	holdRows(t, "Gelu", []row{
		// each fma as a product and a sum, both rounded
		{0xbfcc4467, 0xbdb4fe71}, {0xbf55000b, 0xbe2ccb11}, {0xbf576541, 0xbe2c78e0}, {0xbf4c4e60, 0xbe2dad06},
		// u's fma as a product and a sum
		{0xbfcc4467, 0xbdb4fe71}, {0x3fb128d3, 0x3fa2652c}, {0xbfb1ab9e, 0xbdeb2cf8}, {0xbfb576b4, 0xbde359cc},
		// u's fma of 0x3d372713 * (x * x) and x
		{0x3f80007e, 0x3f57596c}, {0x3f800174, 0x3f575b81}, {0x3f80026a, 0x3f575d96}, {0x3f000690, 0x3eb10cd0},
		// u with x outside of the fma
		{0xbfe38019, 0xbd899960}, {0xbfe4663b, 0xbd8808ef}, {0xbfde2390, 0xbd931f18}, {0xbfe29028, 0xbd8b3d6a},
		// x times the sum, halved
		{0x7f7356a1, 0x7f7356a1}, {0x7f736955, 0x7f736955}, {0x7f73d76b, 0x7f73d76b}, {0x7f71f8c4, 0x7f71f8c4},
		// one fma of halves
		{0xc0f19a0a, 0x80000000}, {0xc0f1b9bd, 0x80000000}, {0xc0f2daa0, 0x80000000}, {0xc0f34495, 0x80000000},
	})
}

// P12.3: numbers of which Slope would tell something else, were it reckoned in one of the other ways that are named.
func TestSlopeJustSo(t *testing.T) {
	holdRows(t, "Slope", []row{
		// each fma as a product and a sum, both rounded
		{0xbfef3546, 0xbdccdaa6}, {0xbfef6006, 0xbdcc942d}, {0xbf718e25, 0xbd8b8c09}, {0xbf720ac6, 0xbd8ca614},
		// u's fma as a product and a sum
		{0xbfb576b4, 0xbe0416b9}, {0x3ff209ca, 0x3f8c827e}, {0xbfb1ab9e, 0xbe03e3e6}, {0x40080514, 0x3f894d2e},
		// u's fma of 0x3d372713 * (x * x) and x
		{0x3f000c80, 0x3f5e13a5}, {0x3f72c0a1, 0x3f88e3f1}, {0x3f75501e, 0x3f893e88}, {0xbf3ae5a1, 0x3c211a6a},
		// u with x outside of the fma
		{0xbfe29028, 0xbde0ca55}, {0xbfe38019, 0xbddf634c}, {0xbfe4663b, 0xbdde077b}, {0xbf630250, 0xbd501cf3},
		// d's fma as a product and a sum
		{0xbfcc4467, 0xbdfc9e8d}, {0xbfc974e1, 0xbdff26cd}, {0xc042cbd0, 0xbc281fd8}, {0xc0445cd8, 0xbc1ce23a},
		// d's fma of 0x3e095d4f * x and x
		{0xbffca864, 0xbdb617e0}, {0xc071346e, 0xba67670a}, {0xc06a76ca, 0xbaae65a5}, {0xc0832e6f, 0xb96114b5},
		// the last fma as a product and a sum
		{0xbf79574b, 0xbd9c8201}, {0xbf7b33df, 0xbda05b41}, {0xc049c2a0, 0xbbf57b47}, {0xbf73eb77, 0xbd90d8af},
		// 1 - t * t as an fma
		{0xc07f313b, 0xb9b9c9b3}, {0xc07d3e1b, 0xb9d3e365}, {0xc07d7127, 0xb9d11a7f}, {0xc0934638, 0xb78edce8},
		// d inside of the product
		{0xbff34e04, 0xbdc6087a}, {0xbff4b4ce, 0xbdc3ac00}, {0xc07354e3, 0xba4a83e0}, {0xc08c94cd, 0xb8566c9f},
		// (1 - t * t) * d first
		{0xbfee4504, 0xbdce65a7}, {0xbf7c900f, 0xbda31e41}, {0xbf7d4d21, 0xbda499ab}, {0xbf7d67b5, 0xbda4cebb},
		// 1 - t * t as 1 less t, times 1 and t
		{0xc0940884, 0xb7782ac7}, {0xc091dcbe, 0xb7b3315f}, {0xc0922338, 0xb7ad6492}, {0xc0923550, 0xb7a6ee50},
	})
}

// P12.3: numbers of which Cospi would tell something else, were it reckoned in one of the other ways that are named.
func TestCospiJustSo(t *testing.T) {
	holdRows(t, "Cospi", []row{
		// each fma as a product and a sum, both rounded
		{0xbeff9188, 0xbd937cb8}, {0xbeea4329, 0x3da758c5}, {0xbeeab3df, 0x3da1066f}, {0xbee7608d, 0x3dd0938d},
		// y as a product less half of the turn
		{0xbdfe0aa8, 0x3f6c83ce}, {0xbdff0b34, 0x3f6c5cf0}, {0xbd7a419b, 0x3f7b2f96}, {0xbd790231, 0x3f7b3ba9},
		// y as one fma
		{0xbd7a3eda, 0x3f7b2fb1}, {0xbd74f948, 0x3f7b624e}, {0xbd78a417, 0x3f7b3f37}, {0xbd790231, 0x3f7b3ba9},
		// the last fma as a product and a sum
		{0xbf7c900f, 0xc05a0db5}, {0xbf71901d, 0xc03697ac}, {0xbf724dad, 0xc038c837}, {0xbf73eb77, 0xc03da7ae},
		// y * z as a part of an fma
		{0xbf76de60, 0xc046e31e}, {0xbf76f0de, 0xc0471e76}, {0xbf77be49, 0xc049b6a7}, {0xbf78e7b5, 0xc04d883f},
		// q * z as a part of an fma
		{0xbdea4727, 0x3f6f6459}, {0xbdeac779, 0x3f6f5261}, {0xbdead7d2, 0x3f6f5015}, {0xbdeae295, 0x3f6f4e92},
	})
}
