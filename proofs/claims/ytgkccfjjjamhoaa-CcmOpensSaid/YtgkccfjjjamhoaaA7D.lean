/-
  Layer 7: the statements' parameters; the example of chapter 7, reckoned step by step; the sanity check.
-/
import Derived.Test.YtgkccfjjjamhoaaA7W
namespace Go.Proofs.Ytgkccfjjjamhoaa
open Go.RowKit

/-! the example -/
abbrev kx7 : List Int := [192, 193, 194, 195, 196, 197, 198, 199, 200, 201, 202, 203, 204, 205, 206, 207]
abbrev nx7 : List Int := [0, 0, 0, 3, 2, 1, 0, 160, 161, 162, 163, 164, 165]
abbrev ax7 : List Int := [0, 1, 2, 3, 4, 5, 6, 7]
abbrev px7 : List Int := [8, 9, 10, 11, 12, 13, 14, 15, 16, 17, 18, 19, 20, 21, 22, 23, 24, 25, 26, 27, 28, 29, 30]
abbrev bx7 : List Int := [89, 0, 0, 0, 3, 2, 1, 0, 160, 161, 162, 163, 164, 165, 0, 23, 0, 8, 0, 1, 2, 3, 4, 5, 6, 7, 0, 0, 0, 0, 0, 0, 8, 9, 10, 11, 12, 13, 14, 15, 16, 17, 18, 19, 20, 21, 22, 23, 24, 25, 26, 27, 28, 29, 30, 0, 0, 0, 0, 0, 0, 0, 0, 0]
abbrev cx7 : List Int := [88, 140, 151, 154, 97, 198, 99, 210, 240, 102, 208, 194, 192, 249, 137, 128, 109, 95, 107, 97, 218, 195, 132, 23, 232, 209, 44, 253, 249, 38, 224]
theorem xk0 : kkP kx7 SB 0 = [192, 193, 194, 195, 196, 197, 198, 199, 200, 201, 202, 203, 204, 205, 206, 207] := by rfl
theorem xk1 : kkP kx7 SB 1 = [124, 74, 72, 136, 184, 143, 142, 79, 112, 70, 68, 132, 188, 139, 138, 75] := by rw [kkP, xk0]; kernel_rfl
theorem xk2 : kkP kx7 SB 2 = [67, 52, 251, 237, 251, 187, 117, 162, 139, 253, 49, 38, 55, 118, 187, 109] := by rw [kkP, xk1]; kernel_rfl
theorem xk3 : kkP kx7 SB 3 = [127, 222, 199, 119, 132, 101, 178, 213, 15, 152, 131, 243, 56, 238, 56, 158] := by rw [kkP, xk2]; kernel_rfl
theorem xk4 : kkP kx7 SB 4 = [95, 217, 204, 112, 219, 188, 126, 165, 212, 36, 253, 86, 236, 202, 197, 200] := by rw [kkP, xk3]; kernel_rfl
theorem xk5 : kkP kx7 SB 5 = [59, 127, 36, 190, 224, 195, 90, 27, 52, 231, 167, 77, 216, 45, 98, 133] := by rw [kkP, xk4]; kernel_rfl
theorem xk6 : kkP kx7 SB 6 = [195, 213, 179, 223, 35, 22, 233, 196, 23, 241, 78, 137, 207, 220, 44, 12] := by rw [kkP, xk5]; kernel_rfl
theorem xk7 : kkP kx7 SB 7 = [5, 164, 77, 85, 38, 178, 164, 145, 49, 67, 234, 24, 254, 159, 198, 20] := by rw [kkP, xk6]; kernel_rfl
theorem xk8 : kkP kx7 SB 8 = [94, 16, 183, 238, 120, 162, 19, 127, 73, 225, 249, 103, 183, 126, 63, 115] := by rw [kkP, xk7]; kernel_rfl
theorem xk9 : kkP kx7 SB 9 = [182, 101, 56, 71, 206, 199, 43, 56, 135, 38, 210, 95, 48, 88, 237, 44] := by rw [kkP, xk8]; kernel_rfl
theorem xk10 : kkP kx7 SB 10 = [234, 48, 73, 67, 36, 247, 98, 123, 163, 209, 176, 36, 147, 137, 93, 8] := by rw [kkP, xk9]; kernel_rfl
theorem xm0_0 : encS kx7 [89, 0, 0, 0, 3, 2, 1, 0, 160, 161, 162, 163, 164, 165, 0, 23] 0 = [153, 193, 194, 195, 199, 199, 199, 199, 104, 104, 104, 104, 104, 104, 206, 216] := by rw [encS, xk0]; kernel_rfl
theorem xm0_1 : encS kx7 [89, 0, 0, 0, 3, 2, 1, 0, 160, 161, 162, 163, 164, 165, 0, 23] 1 = [206, 157, 73, 224, 69, 107, 114, 140, 214, 32, 95, 188, 61, 42, 239, 176] := by rw [encS, xm0_0, xk1]; kernel_rfl
theorem xm0_2 : encS kx7 [89, 0, 0, 0, 3, 2, 1, 0, 160, 161, 162, 163, 164, 165, 0, 23] 2 = [231, 236, 184, 14, 219, 59, 49, 161, 23, 243, 248, 49, 190, 72, 237, 208] := by rw [encS, xm0_1, xk2]; kernel_rfl
theorem xm0_3 : encS kx7 [89, 0, 0, 0, 3, 2, 1, 0, 160, 161, 162, 163, 164, 165, 0, 23] 3 = [64, 38, 163, 147, 4, 146, 74, 16, 92, 74, 175, 162, 54, 82, 159, 235] := by rw [encS, xm0_2, xk3]; kernel_rfl
theorem xm0_4 : encS kx7 [89, 0, 0, 0, 3, 2, 1, 0, 160, 161, 162, 163, 164, 165, 0, 23] 4 = [12, 44, 88, 148, 66, 83, 136, 6, 128, 186, 230, 13, 8, 97, 206, 146] := by rw [encS, xm0_3, xk4]; kernel_rfl
theorem xm0_5 : encS kx7 [89, 0, 0, 0, 3, 2, 1, 0, 160, 161, 162, 163, 164, 165, 0, 23] 5 = [49, 134, 225, 90, 22, 184, 233, 84, 154, 62, 224, 90, 56, 127, 210, 213] := by rw [encS, xm0_4, xk5]; kernel_rfl
theorem xm0_6 : encS kx7 [89, 0, 0, 0, 3, 2, 1, 0, 160, 161, 162, 163, 164, 165, 0, 23] 6 = [0, 241, 196, 6, 107, 84, 180, 109, 201, 197, 175, 48, 173, 207, 138, 56] := by rw [encS, xm0_5, xk6]; kernel_rfl
theorem xm0_7 : encS kx7 [89, 0, 0, 0, 3, 2, 1, 0, 160, 161, 162, 163, 164, 165, 0, 23] 7 = [221, 11, 245, 167, 56, 119, 48, 22, 53, 137, 193, 138, 190, 219, 255, 148] := by rw [encS, xm0_6, xk7]; kernel_rfl
theorem xm0_8 : encS kx7 [89, 0, 0, 0, 3, 2, 1, 0, 160, 161, 162, 163, 164, 165, 0, 23] 8 = [153, 138, 21, 127, 206, 150, 123, 127, 15, 104, 200, 23, 247, 244, 48, 73] := by rw [encS, xm0_7, xk8]; kernel_rfl
theorem xm0_9 : encS kx7 [89, 0, 0, 0, 3, 2, 1, 0, 160, 161, 162, 163, 164, 165, 0, 23] 9 = [9, 168, 192, 96, 218, 24, 128, 64, 58, 12, 196, 156, 179, 95, 178, 48] := by rw [encS, xm0_8, xk9]; kernel_rfl
theorem xm0_10 : encS kx7 [89, 0, 0, 0, 3, 2, 1, 0, 160, 161, 162, 163, 164, 165, 0, 23] 10 = [235, 157, 85, 71, 115, 9, 85, 171, 35, 30, 10, 45, 254, 75, 144, 214] := by rw [encS, xm0_9, xk10]; kernel_rfl
theorem xm1_0 : encS kx7 [235, 149, 85, 70, 113, 10, 81, 174, 37, 25, 10, 45, 254, 75, 144, 214] 0 = [43, 84, 151, 133, 181, 207, 151, 105, 237, 208, 192, 230, 50, 134, 94, 25] := by rw [encS, xk0]; kernel_rfl
theorem xm1_1 : encS kx7 [235, 149, 85, 70, 113, 10, 81, 174, 37, 25, 10, 45, 254, 75, 144, 214] 1 = [110, 181, 59, 3, 86, 197, 57, 54, 103, 225, 78, 94, 156, 229, 11, 129] := by rw [encS, xm1_0, xk1]; kernel_rfl
theorem xm1_2 : encS kx7 [235, 149, 85, 70, 113, 10, 81, 174, 37, 25, 10, 45, 254, 75, 144, 214] 2 = [180, 129, 136, 198, 193, 231, 231, 79, 13, 233, 189, 131, 190, 119, 124, 99] := by rw [encS, xm1_1, xk2]; kernel_rfl
theorem xm1_3 : encS kx7 [235, 149, 85, 70, 113, 10, 81, 174, 37, 25, 10, 45, 254, 75, 144, 214] 3 = [88, 21, 60, 248, 242, 165, 51, 32, 254, 109, 165, 179, 19, 19, 134, 44] := by rw [encS, xm1_2, xk3]; kernel_rfl
theorem xm1_4 : encS kx7 [235, 149, 85, 70, 113, 10, 81, 174, 37, 25, 10, 45, 254, 75, 144, 214] 4 = [246, 196, 63, 44, 147, 192, 128, 223, 98, 244, 52, 99, 83, 54, 203, 15] := by rw [encS, xm1_3, xk4]; kernel_rfl
theorem xm1_5 : encS kx7 [235, 149, 85, 70, 113, 10, 81, 174, 37, 25, 10, 45, 254, 75, 144, 214] 5 = [4, 12, 118, 54, 247, 42, 148, 38, 159, 70, 91, 255, 11, 79, 4, 149] := by rw [encS, xm1_4, xk5]; kernel_rfl
theorem xm1_6 : encS kx7 [235, 149, 85, 70, 113, 10, 81, 174, 37, 25, 10, 45, 254, 75, 144, 214] 6 = [27, 151, 168, 90, 234, 194, 43, 222, 226, 134, 99, 182, 180, 96, 135, 129] := by rw [encS, xm1_5, xk6]; kernel_rfl
theorem xm1_7 : encS kx7 [235, 149, 85, 70, 113, 10, 81, 174, 37, 25, 10, 45, 254, 75, 144, 214] 7 = [216, 91, 62, 121, 86, 58, 144, 55, 174, 32, 26, 131, 195, 95, 232, 125] := by rw [encS, xm1_6, xk7]; kernel_rfl
theorem xm1_8 : encS kx7 [235, 149, 85, 70, 113, 10, 81, 174, 37, 25, 10, 45, 254, 75, 144, 214] 8 = [90, 104, 19, 138, 238, 102, 249, 236, 248, 215, 24, 2, 44, 110, 199, 155] := by rw [encS, xm1_7, xk8]; kernel_rfl
theorem xm1_9 : encS kx7 [235, 149, 85, 70, 113, 10, 81, 174, 37, 25, 10, 45, 254, 75, 144, 214] 9 = [61, 69, 200, 40, 52, 220, 24, 116, 12, 11, 191, 249, 243, 100, 105, 141] := by rw [encS, xm1_8, xk9]; kernel_rfl
theorem xm1_10 : encS kx7 [235, 149, 85, 70, 113, 10, 81, 174, 37, 25, 10, 45, 254, 75, 144, 214] 10 = [205, 182, 65, 30, 60, 220, 155, 79, 93, 146, 88, 182, 158, 231, 240, 145] := by rw [encS, xm1_9, xk10]; kernel_rfl
theorem xm2_0 : encS kx7 [197, 191, 75, 21, 48, 209, 149, 64, 77, 131, 74, 165, 138, 242, 230, 134] 0 = [5, 126, 137, 214, 244, 20, 83, 135, 133, 74, 128, 110, 70, 63, 40, 73] := by rw [encS, xk0]; kernel_rfl
theorem xm2_1 : encS kx7 [197, 191, 75, 21, 48, 209, 149, 64, 77, 131, 74, 165, 138, 242, 230, 134] 1 = [73, 185, 21, 116, 126, 45, 142, 128, 106, 222, 202, 218, 116, 159, 88, 158] := by rw [encS, xm2_0, xk1]; kernel_rfl
theorem xm2_2 : encS kx7 [197, 191, 75, 21, 48, 209, 149, 64, 77, 131, 74, 165, 138, 242, 230, 134] 2 = [57, 51, 237, 26, 217, 94, 226, 228, 109, 116, 22, 35, 188, 52, 180, 33] := by rw [encS, xm2_1, xk2]; kernel_rfl
theorem xm2_3 : encS kx7 [197, 191, 75, 21, 48, 209, 149, 64, 77, 131, 74, 165, 138, 242, 230, 134] 3 = [9, 72, 31, 191, 108, 65, 233, 202, 99, 2, 182, 40, 18, 131, 223, 38] := by rw [encS, xm2_2, xk3]; kernel_rfl
theorem xm2_4 : encS kx7 [197, 191, 75, 21, 48, 209, 149, 64, 77, 131, 74, 165, 138, 242, 230, 134] 4 = [122, 224, 208, 75, 116, 179, 102, 172, 162, 51, 237, 132, 185, 177, 62, 172] := by rw [encS, xm2_3, xk4]; kernel_rfl
theorem xm2_5 : encS kx7 [197, 191, 75, 21, 48, 209, 149, 64, 77, 131, 74, 165, 138, 242, 230, 134] 5 = [231, 17, 145, 202, 128, 178, 186, 186, 226, 87, 29, 130, 32, 168, 82, 19] := by rw [encS, xm2_4, xk5]; kernel_rfl
theorem xm2_6 : encS kx7 [197, 191, 75, 21, 48, 209, 149, 64, 77, 131, 74, 165, 138, 242, 230, 134] 6 = [112, 165, 196, 17, 59, 25, 227, 59, 20, 154, 10, 138, 192, 96, 223, 158] := by rw [encS, xm2_5, xk6]; kernel_rfl
theorem xm2_7 : encS kx7 [197, 191, 75, 21, 48, 209, 149, 64, 77, 131, 74, 165, 138, 242, 230, 134] 7 = [172, 228, 27, 3, 54, 0, 68, 149, 75, 196, 197, 30, 244, 100, 218, 42] := by rw [encS, xm2_6, xk7]; kernel_rfl
theorem xm2_8 : encS kx7 [197, 191, 75, 21, 48, 209, 149, 64, 77, 131, 74, 165, 138, 242, 230, 134] 8 = [129, 83, 38, 82, 122, 29, 41, 205, 116, 20, 50, 17, 0, 76, 73, 63] := by rw [encS, xm2_7, xk8]; kernel_rfl
theorem xm2_9 : encS kx7 [197, 191, 75, 21, 48, 209, 149, 64, 77, 131, 74, 165, 138, 242, 230, 134] 9 = [15, 42, 73, 62, 79, 191, 125, 140, 137, 89, 64, 77, 253, 140, 175, 222] := by rw [encS, xm2_8, xk9]; kernel_rfl
theorem xm2_10 : encS kx7 [197, 191, 75, 21, 48, 209, 149, 64, 77, 131, 74, 165, 138, 242, 230, 134] 10 = [156, 56, 64, 94, 160, 60, 27, 201, 4, 181, 139, 64, 199, 108, 162, 235] := by rw [encS, xm2_9, xk10]; kernel_rfl
theorem xm3_0 : encS kx7 [132, 33, 90, 69, 188, 33, 5, 201, 4, 181, 139, 64, 199, 108, 162, 235] 0 = [68, 224, 152, 134, 120, 228, 195, 14, 204, 124, 65, 139, 11, 161, 108, 36] := by rw [encS, xk0]; kernel_rfl
theorem xm3_1 : encS kx7 [132, 33, 90, 69, 188, 33, 5, 201, 4, 181, 139, 64, 199, 108, 162, 235] 1 = [68, 43, 125, 35, 255, 167, 78, 88, 93, 8, 87, 96, 193, 54, 91, 131] := by rw [encS, xm3_0, xk1]; kernel_rfl
theorem xm3_2 : encS kx7 [132, 33, 90, 69, 188, 33, 5, 201, 4, 181, 139, 64, 199, 108, 162, 235] 2 = [38, 150, 37, 4, 152, 160, 75, 221, 137, 203, 35, 220, 48, 86, 7, 128] := by rw [encS, xm3_1, xk2]; kernel_rfl
theorem xm3_3 : encS kx7 [132, 33, 90, 69, 188, 33, 5, 201, 4, 181, 139, 64, 199, 108, 162, 235] 3 = [90, 85, 208, 50, 30, 187, 119, 58, 108, 198, 179, 22, 174, 153, 64, 166] := by rw [encS, xm3_2, xk3]; kernel_rfl
theorem xm3_4 : encS kx7 [132, 33, 90, 69, 188, 33, 5, 201, 4, 181, 139, 64, 199, 108, 162, 235] 4 = [84, 59, 46, 102, 210, 133, 207, 200, 173, 163, 56, 35, 146, 142, 229, 120] := by rw [encS, xm3_3, xk4]; kernel_rfl
theorem xm3_5 : encS kx7 [132, 33, 90, 69, 188, 33, 5, 201, 4, 181, 139, 64, 199, 108, 162, 235] 5 = [98, 223, 66, 45, 101, 33, 25, 106, 247, 251, 106, 10, 215, 30, 170, 112] := by rw [encS, xm3_4, xk5]; kernel_rfl
theorem xm3_6 : encS kx7 [132, 33, 90, 69, 188, 33, 5, 201, 4, 181, 139, 64, 199, 108, 162, 235] 6 = [195, 201, 19, 103, 220, 114, 155, 27, 127, 11, 10, 107, 217, 245, 166, 154] := by rw [encS, xm3_5, xk6]; kernel_rfl
theorem xm3_7 : encS kx7 [132, 33, 90, 69, 188, 33, 5, 201, 4, 181, 139, 64, 199, 108, 162, 235] 7 = [70, 27, 62, 107, 237, 139, 213, 30, 109, 110, 206, 171, 131, 72, 135, 124] := by rw [encS, xm3_6, xk7]; kernel_rfl
theorem xm3_8 : encS kx7 [132, 33, 90, 69, 188, 33, 5, 201, 4, 181, 139, 64, 199, 108, 162, 235] 8 = [54, 166, 237, 150, 0, 148, 118, 246, 7, 198, 126, 39, 255, 176, 220, 52] := by rw [encS, xm3_7, xk8]; kernel_rfl
theorem xm3_9 : encS kx7 [132, 33, 90, 69, 188, 33, 5, 201, 4, 181, 139, 64, 199, 108, 162, 235] 9 = [49, 50, 202, 169, 217, 214, 64, 148, 51, 139, 156, 61, 132, 130, 224, 137] := by rw [encS, xm3_8, xk9]; kernel_rfl
theorem xm3_10 : encS kx7 [132, 33, 90, 69, 188, 33, 5, 201, 4, 181, 139, 64, 199, 108, 162, 235] 10 = [45, 198, 151, 228, 17, 202, 131, 168, 96, 194, 196, 6, 204, 170, 84, 47] := by rw [encS, xm3_9, xk10]; kernel_rfl
theorem xs0_0 : encS kx7 [1, 0, 0, 0, 3, 2, 1, 0, 160, 161, 162, 163, 164, 165, 0, 0] 0 = [193, 193, 194, 195, 199, 199, 199, 199, 104, 104, 104, 104, 104, 104, 206, 207] := by rw [encS, xk0]; kernel_rfl
theorem xs0_1 : encS kx7 [1, 0, 0, 0, 3, 2, 1, 0, 160, 161, 162, 163, 164, 165, 0, 0] 1 = [18, 224, 249, 140, 69, 107, 114, 140, 214, 32, 95, 188, 61, 42, 239, 176] := by rw [encS, xs0_0, xk1]; kernel_rfl
theorem xs0_2 : encS kx7 [1, 0, 0, 0, 3, 2, 1, 0, 160, 161, 162, 163, 164, 165, 0, 0] 2 = [99, 174, 250, 200, 94, 190, 165, 176, 181, 14, 167, 147, 100, 45, 82, 111] := by rw [encS, xs0_1, xk2]; kernel_rfl
theorem xs0_3 : encS kx7 [1, 0, 0, 0, 3, 2, 1, 0, 160, 161, 162, 163, 164, 165, 0, 0] 3 = [143, 46, 201, 216, 58, 152, 98, 93, 7, 118, 230, 183, 83, 168, 236, 26] := by rw [encS, xs0_2, xk3]; kernel_rfl
theorem xs0_4 : encS kx7 [1, 0, 0, 0, 3, 2, 1, 0, 160, 161, 162, 163, 164, 165, 0, 0] 4 = [95, 13, 3, 114, 39, 100, 226, 10, 137, 78, 143, 133, 125, 9, 182, 54] := by rw [encS, xs0_3, xk4]; kernel_rfl
theorem xs0_5 : encS kx7 [1, 0, 0, 0, 3, 2, 1, 0, 160, 161, 162, 163, 164, 165, 0, 0] 5 = [13, 166, 65, 206, 28, 195, 229, 181, 126, 168, 94, 11, 80, 67, 195, 229] := by rw [encS, xs0_4, xk5]; kernel_rfl
theorem xs0_6 : encS kx7 [1, 0, 0, 0, 3, 2, 1, 0, 160, 161, 162, 163, 164, 165, 0, 0] 6 = [133, 111, 138, 98, 248, 236, 109, 154, 146, 125, 222, 175, 247, 156, 143, 82] := by rw [encS, xs0_5, xk6]; kernel_rfl
theorem xs0_7 : encS kx7 [1, 0, 0, 0, 3, 2, 1, 0, 160, 161, 162, 163, 164, 165, 0, 0] 7 = [100, 147, 46, 36, 103, 41, 25, 145, 16, 145, 84, 2, 136, 129, 245, 202] := by rw [encS, xs0_6, xk7]; kernel_rfl
theorem xs0_8 : encS kx7 [1, 0, 0, 0, 3, 2, 1, 0, 160, 161, 162, 163, 164, 165, 0, 0] 8 = [120, 22, 141, 70, 33, 57, 154, 224, 98, 225, 197, 6, 248, 9, 13, 194] := by rw [encS, xs0_7, xk8]; kernel_rfl
theorem xs0_9 : encS kx7 [1, 0, 0, 0, 3, 2, 1, 0, 160, 161, 162, 163, 164, 165, 0, 0] 9 = [96, 41, 174, 102, 177, 233, 117, 191, 119, 136, 251, 63, 172, 43, 49, 206] := by rw [encS, xs0_8, xk9]; kernel_rfl
theorem xs0_10 : encS kx7 [1, 0, 0, 0, 3, 2, 1, 0, 160, 161, 162, 163, 164, 165, 0, 0] 10 = [58, 46, 70, 200, 236, 51, 165, 72, 86, 32, 84, 44, 2, 44, 192, 125] := by rw [encS, xs0_9, xk10]; kernel_rfl
theorem xs1_0 : encS kx7 [1, 0, 0, 0, 3, 2, 1, 0, 160, 161, 162, 163, 164, 165, 0, 1] 0 = [193, 193, 194, 195, 199, 199, 199, 199, 104, 104, 104, 104, 104, 104, 206, 206] := by rw [encS, xk0]; kernel_rfl
theorem xs1_1 : encS kx7 [1, 0, 0, 0, 3, 2, 1, 0, 160, 161, 162, 163, 164, 165, 0, 1] 1 = [19, 225, 250, 142, 69, 107, 114, 140, 214, 32, 95, 188, 61, 42, 239, 176] := by rw [encS, xs1_0, xk1]; kernel_rfl
theorem xs1_2 : encS kx7 [1, 0, 0, 0, 3, 2, 1, 0, 160, 161, 162, 163, 164, 165, 0, 1] 2 = [16, 26, 78, 15, 35, 195, 34, 74, 1, 201, 212, 39, 79, 31, 75, 118] := by rw [encS, xs1_1, xk2]; kernel_rfl
theorem xs1_3 : encS kx7 [1, 0, 0, 0, 3, 2, 1, 0, 160, 161, 162, 163, 164, 165, 0, 1] 3 = [242, 168, 251, 36, 113, 90, 174, 61, 85, 216, 0, 47, 137, 87, 108, 187] := by rw [encS, xs1_2, xk3]; kernel_rfl
theorem xs1_4 : encS kx7 [1, 0, 0, 0, 3, 2, 1, 0, 160, 161, 162, 163, 164, 165, 0, 1] 4 = [6, 120, 24, 226, 67, 27, 70, 6, 242, 88, 45, 83, 21, 208, 76, 54] := by rw [encS, xs1_3, xk4]; kernel_rfl
theorem xs1_5 : encS kx7 [1, 0, 0, 0, 3, 2, 1, 0, 160, 161, 162, 163, 164, 165, 0, 1] 5 = [210, 35, 64, 114, 219, 238, 203, 93, 111, 13, 174, 206, 2, 20, 31, 73] := by rw [encS, xs1_4, xk5]; kernel_rfl
theorem xs1_6 : encS kx7 [1, 0, 0, 0, 3, 2, 1, 0, 160, 161, 162, 163, 164, 165, 0, 1] 6 = [21, 60, 176, 161, 168, 1, 220, 131, 12, 225, 218, 1, 223, 77, 197, 161] := by rw [encS, xs1_5, xk6]; kernel_rfl
theorem xs1_7 : encS kx7 [1, 0, 0, 0, 3, 2, 1, 0, 160, 161, 162, 163, 164, 165, 0, 1] 7 = [86, 206, 144, 241, 62, 88, 159, 246, 227, 190, 13, 198, 5, 33, 32, 56] := by rw [encS, xs1_6, xk7]; kernel_rfl
theorem xs1_8 : encS kx7 [1, 0, 0, 0, 3, 2, 1, 0, 160, 161, 162, 163, 164, 165, 0, 1] 8 = [73, 16, 208, 149, 248, 52, 130, 242, 85, 243, 19, 77, 136, 218, 181, 237] := by rw [encS, xs1_7, xk8]; kernel_rfl
theorem xs1_9 : encS kx7 [1, 0, 0, 0, 3, 2, 1, 0, 160, 161, 162, 163, 164, 165, 0, 1] 9 = [192, 188, 30, 197, 164, 210, 168, 119, 100, 109, 25, 110, 22, 197, 251, 127] := by rw [encS, xs1_8, xk9]; kernel_rfl
theorem xs1_10 : encS kx7 [1, 0, 0, 0, 3, 2, 1, 0, 160, 161, 162, 163, 164, 165, 0, 1] 10 = [80, 133, 157, 145, 109, 203, 109, 221, 224, 119, 194, 209, 212, 236, 159, 151] := by rw [encS, xs1_9, xk10]; kernel_rfl
theorem xs2_0 : encS kx7 [1, 0, 0, 0, 3, 2, 1, 0, 160, 161, 162, 163, 164, 165, 0, 2] 0 = [193, 193, 194, 195, 199, 199, 199, 199, 104, 104, 104, 104, 104, 104, 206, 205] := by rw [encS, xk0]; kernel_rfl
theorem xs2_1 : encS kx7 [1, 0, 0, 0, 3, 2, 1, 0, 160, 161, 162, 163, 164, 165, 0, 2] 1 = [37, 215, 160, 226, 69, 107, 114, 140, 214, 32, 95, 188, 61, 42, 239, 176] := by rw [encS, xs2_0, xk1]; kernel_rfl
theorem xs2_2 : encS kx7 [1, 0, 0, 0, 3, 2, 1, 0, 160, 161, 162, 163, 164, 165, 0, 2] 2 = [148, 88, 12, 201, 162, 66, 186, 83, 204, 133, 85, 234, 78, 232, 189, 128] := by rw [encS, xs2_1, xk2]; kernel_rfl
theorem xs2_3 : encS kx7 [1, 0, 0, 0, 3, 2, 1, 0, 160, 161, 162, 163, 164, 165, 0, 2] 3 = [126, 118, 102, 64, 245, 57, 151, 215, 60, 10, 152, 138, 171, 149, 28, 100] := by rw [encS, xs2_2, xk3]; kernel_rfl
theorem xs2_4 : encS kx7 [1, 0, 0, 0, 3, 2, 1, 0, 160, 161, 162, 163, 164, 165, 0, 2] 4 = [145, 135, 100, 172, 48, 34, 199, 125, 90, 192, 72, 117, 150, 37, 22, 34] := by rw [encS, xs2_3, xk4]; kernel_rfl
theorem xs2_5 : encS kx7 [1, 0, 0, 0, 3, 2, 1, 0, 160, 161, 162, 163, 164, 165, 0, 2] 5 = [77, 166, 60, 218, 235, 240, 194, 211, 174, 29, 186, 13, 129, 95, 206, 222] := by rw [encS, xs2_4, xk5]; kernel_rfl
theorem xs2_6 : encS kx7 [1, 0, 0, 0, 3, 2, 1, 0, 160, 161, 162, 163, 164, 165, 0, 2] 6 = [120, 47, 8, 163, 193, 125, 80, 101, 3, 208, 2, 86, 73, 32, 44, 172] := by rw [encS, xs2_5, xk6]; kernel_rfl
theorem xs2_7 : encS kx7 [1, 0, 0, 0, 3, 2, 1, 0, 160, 161, 162, 163, 164, 165, 0, 2] 7 = [154, 245, 72, 59, 61, 179, 80, 12, 120, 80, 145, 136, 85, 202, 134, 102] := by rw [encS, xs2_6, xk7]; kernel_rfl
theorem xs2_8 : encS kx7 [1, 0, 0, 0, 3, 2, 1, 0, 160, 161, 162, 163, 164, 165, 0, 2] 8 = [48, 217, 46, 183, 101, 13, 210, 222, 26, 189, 140, 121, 242, 100, 212, 74] := by rw [encS, xs2_7, xk8]; kernel_rfl
theorem xs2_9 : encS kx7 [1, 0, 0, 0, 3, 2, 1, 0, 160, 161, 162, 163, 164, 165, 0, 2] 9 = [110, 174, 66, 79, 59, 15, 108, 148, 49, 76, 118, 234, 101, 201, 225, 91] := by rw [encS, xs2_8, xk9]; kernel_rfl
theorem xs2_10 : encS kx7 [1, 0, 0, 0, 3, 2, 1, 0, 160, 161, 162, 163, 164, 165, 0, 2] 10 = [117, 70, 113, 122, 198, 222, 154, 255, 100, 12, 156, 6, 222, 109, 13, 143] := by rw [encS, xs2_9, xk10]; kernel_rfl
theorem xM1 : macB kx7 bx7 1 = [235, 157, 85, 71, 115, 9, 85, 171, 35, 30, 10, 45, 254, 75, 144, 214] := by rw [macB, show macB kx7 bx7 0 = [0, 0, 0, 0, 0, 0, 0, 0, 0, 0, 0, 0, 0, 0, 0, 0] from rfl, show xorAt [0, 0, 0, 0, 0, 0, 0, 0, 0, 0, 0, 0, 0, 0, 0, 0] bx7 (16 * 0) = [89, 0, 0, 0, 3, 2, 1, 0, 160, 161, 162, 163, 164, 165, 0, 23] from by kernel_rfl]; exact xm0_10
theorem xM2 : macB kx7 bx7 2 = [205, 182, 65, 30, 60, 220, 155, 79, 93, 146, 88, 182, 158, 231, 240, 145] := by rw [macB, xM1, show xorAt [235, 157, 85, 71, 115, 9, 85, 171, 35, 30, 10, 45, 254, 75, 144, 214] bx7 (16 * 1) = [235, 149, 85, 70, 113, 10, 81, 174, 37, 25, 10, 45, 254, 75, 144, 214] from by kernel_rfl]; exact xm1_10
theorem xM3 : macB kx7 bx7 3 = [156, 56, 64, 94, 160, 60, 27, 201, 4, 181, 139, 64, 199, 108, 162, 235] := by rw [macB, xM2, show xorAt [205, 182, 65, 30, 60, 220, 155, 79, 93, 146, 88, 182, 158, 231, 240, 145] bx7 (16 * 2) = [197, 191, 75, 21, 48, 209, 149, 64, 77, 131, 74, 165, 138, 242, 230, 134] from by kernel_rfl]; exact xm2_10
theorem xM4 : macB kx7 bx7 4 = [45, 198, 151, 228, 17, 202, 131, 168, 96, 194, 196, 6, 204, 170, 84, 47] := by rw [macB, xM3, show xorAt [156, 56, 64, 94, 160, 60, 27, 201, 4, 181, 139, 64, 199, 108, 162, 235] bx7 (16 * 3) = [132, 33, 90, 69, 188, 33, 5, 201, 4, 181, 139, 64, 199, 108, 162, 235] from by kernel_rfl]; exact xm3_10
theorem xmac : macP kx7 nx7 ax7 px7 8 = [45, 198, 151, 228, 17, 202, 131, 168, 96, 194, 196, 6, 204, 170, 84, 47] := by rw [macP, show blksP nx7 ax7 px7 8 = bx7 from by kernel_rfl, show bx7.length / 16 = 4 from rfl]; exact xM4
theorem xS0 : ksB kx7 nx7 0 0 = [58, 46, 70, 200, 236, 51, 165, 72, 86, 32, 84, 44, 2, 44, 192, 125] := by rw [ksB, show ctr (14 - (nx7.length : Int)) nx7 (0 + ((0 : Nat) : Int)) = [1, 0, 0, 0, 3, 2, 1, 0, 160, 161, 162, 163, 164, 165, 0, 0] from by kernel_rfl]; exact xs0_10
theorem xS1 : ksB kx7 nx7 1 0 = [80, 133, 157, 145, 109, 203, 109, 221, 224, 119, 194, 209, 212, 236, 159, 151] := by rw [ksB, show ctr (14 - (nx7.length : Int)) nx7 (1 + ((0 : Nat) : Int)) = [1, 0, 0, 0, 3, 2, 1, 0, 160, 161, 162, 163, 164, 165, 0, 1] from by kernel_rfl]; exact xs1_10
theorem xS2 : ksB kx7 nx7 1 1 = [117, 70, 113, 122, 198, 222, 154, 255, 100, 12, 156, 6, 222, 109, 13, 143] := by rw [ksB, show ctr (14 - (nx7.length : Int)) nx7 (1 + ((1 : Nat) : Int)) = [1, 0, 0, 0, 3, 2, 1, 0, 160, 161, 162, 163, 164, 165, 0, 2] from by kernel_rfl]; exact xs2_10
theorem strF_eq {key nonce b : List Int} {blk : Int} (ks : Nat → List Int) (h : ∀ i, i < b.length → ksB key nonce blk (i / 16) = ks (i / 16)) : strF key nonce b blk = (List.range b.length).map fun i => x8 (g b i) (g (ks (i / 16)) (i % 16)) := by
  rw [strF]
  refine List.map_congr_left fun i hi => ?_
  rw [strE, h i (List.mem_range.1 hi)]
theorem xstr1 : strF kx7 nx7 px7 1 = [88, 140, 151, 154, 97, 198, 99, 210, 240, 102, 208, 194, 192, 249, 137, 128, 109, 95, 107, 97, 218, 195, 132] := by
  rw [strF_eq (fun j => if j = 0 then [80, 133, 157, 145, 109, 203, 109, 221, 224, 119, 194, 209, 212, 236, 159, 151] else [117, 70, 113, 122, 198, 222, 154, 255, 100, 12, 156, 6, 222, 109, 13, 143]) (fun i hi => by
    have hi : i < 23 := hi
    have : i / 16 = 0 ∨ i / 16 = 1 := by omega
    rcases this with h | h <;> rw [h]
    · exact xS1
    · exact xS2)]
  kernel_rfl
theorem xstr0 : strF kx7 nx7 [45, 198, 151, 228, 17, 202, 131, 168, 96, 194, 196, 6, 204, 170, 84, 47] 0 = [23, 232, 209, 44, 253, 249, 38, 224, 54, 226, 144, 42, 206, 134, 148, 82] := by
  rw [strF_eq (fun _ => [58, 46, 70, 200, 236, 51, 165, 72, 86, 32, 84, 44, 2, 44, 192, 125]) (fun i hi => by
    have hi : i < 16 := hi
    have h : i / 16 = 0 := by omega
    rw [h]
    exact xS0)]
  kernel_rfl
theorem xseal : sealR kx7 nx7 ax7 px7 8 = ret2 (.own 1 31 5 (.flat .u8 cx7)) 0 := by
  rw [sealR, if_neg (by decide), if_neg (by decide), sealP, xmac, xstr1, xstr0]
  kernel_rfl

/-! the sanity check -/
def orc7d (f : Nat) (ds : List LV) : Option LRes :=
  match f with
  | 11 => match ds with
    | [.im 1 n _ _, .im 1 m _ _, .v (.int .i64 t)] => some (ret1 (.v (.bool (okP n m t))))
    | _ => none
  | 15 => match ds with
    | [.v (.int .i64 a), .v (.int .i64 p)] => some (ret1 (iv .i64 (callsP a p)))
    | _ => none
  | 19 => match ds with
    | [.im 1 kk _ (.flat .u8 k), .im 1 n _ (.flat .u8 v), .im 1 a _ (.flat .u8 x), .im 1 m _ (.flat .u8 b), .v (.int .i64 t)] => if k.length = kk ∧ byteOk k = true ∧ v.length = n ∧ byteOk v = true ∧ x.length = a ∧ byteOk x = true ∧ b.length = m ∧ byteOk b = true then some (sealR k v x b t) else none
    | [.im 1 kk _ (.flat .u8 k), .im 1 n _ (.flat .u8 v), .v (.slice none 0 0), .im 1 m _ (.flat .u8 b), .v (.int .i64 t)] => if k.length = kk ∧ byteOk k = true ∧ v.length = n ∧ byteOk v = true ∧ b.length = m ∧ byteOk b = true then some (sealR k v [] b t) else none
    | _ => none
  | 22 => match ds with
    | [.im 1 kk _ (.flat .u8 k), .im 1 n _ (.flat .u8 v), .im 1 a _ (.flat .u8 x), .im 1 m c4 (.flat .u8 b), .v (.int .i64 t)] => if k.length = kk ∧ byteOk k = true ∧ v.length = n ∧ byteOk v = true ∧ x.length = a ∧ byteOk x = true ∧ b.length = m ∧ byteOk b = true ∧ m ≤ c4.getD m then some (openR k v x b t) else none
    | [.im 1 kk _ (.flat .u8 k), .im 1 n _ (.flat .u8 v), .v (.slice none 0 0), .im 1 m c4 (.flat .u8 b), .v (.int .i64 t)] => if k.length = kk ∧ byteOk k = true ∧ v.length = n ∧ byteOk v = true ∧ b.length = m ∧ byteOk b = true ∧ m ≤ c4.getD m then some (openR k v [] b t) else none
    | _ => none
  | 16 => match ds with
    | [.v (.int .i64 a), .v (.int .i64 p)] => some (ret1 (iv .i64 (callsP a p)))
    | _ => none
  | 23 => match ds with
    | [.im 1 kk _ (.flat .u8 k), .im 1 n _ (.flat .u8 v), .im 1 a _ (.flat .u8 x), .im 1 m c4 (.flat .u8 b), .v (.int .i64 t)] => if k.length = kk ∧ byteOk k = true ∧ v.length = n ∧ byteOk v = true ∧ x.length = a ∧ byteOk x = true ∧ b.length = m ∧ byteOk b = true ∧ m ≤ c4.getD m then some (openR k v x b t) else none
    | _ => none
  | _ => orc7c f ds
theorem orc7d_ok : Known Try.prog orc7d := by
  intro f ds r h
  unfold orc7d at h
  split at h
  · split at h
    · cases h
      exact ⟨⟨_, Try.func11, name_ne _ (by kernel_rfl), rfl⟩, prgValid_call _ _ _ _ _ _ _⟩
    · cases h
  · split at h
    · cases h
      exact ⟨⟨_, Try.func15, name_ne _ (by kernel_rfl), rfl⟩, prgCalls_call _ _⟩
    · cases h
  · split at h
    · split at h
      · rename_i hc
        cases h
        exact ⟨⟨_, Try.func19, name_ne _ (by kernel_rfl), rfl⟩, prgSeal_call _ _ _ _ _ _ _ _ _ _ _ _ _ hc.1 (byteAll hc.2.1) hc.2.2.1 (byteAll hc.2.2.2.1) hc.2.2.2.2.1 (byteAll hc.2.2.2.2.2.1) hc.2.2.2.2.2.2.1 (byteAll hc.2.2.2.2.2.2.2)⟩
      · cases h
    · split at h
      · rename_i hc
        cases h
        exact ⟨⟨_, Try.func19, name_ne _ (by kernel_rfl), rfl⟩, (prgSeal_call _ _ _ _ _ _ _ _ _ _ none _ _ hc.1 (byteAll hc.2.1) hc.2.2.1 (byteAll hc.2.2.2.1) rfl (by intro x hx; simp at hx) hc.2.2.2.2.1 (byteAll hc.2.2.2.2.2)).nilArg 2 rfl⟩
      · cases h
    · cases h
  · split at h
    · split at h
      · rename_i hc
        cases h
        exact ⟨⟨_, Try.func22, name_ne _ (by kernel_rfl), rfl⟩, prgOpen_call _ _ _ _ _ _ _ _ _ _ _ _ _ hc.1 (byteAll hc.2.1) hc.2.2.1 (byteAll hc.2.2.2.1) hc.2.2.2.2.1 (byteAll hc.2.2.2.2.2.1) hc.2.2.2.2.2.2.1 (byteAll hc.2.2.2.2.2.2.2.1) hc.2.2.2.2.2.2.2.2⟩
      · cases h
    · split at h
      · rename_i hc
        cases h
        exact ⟨⟨_, Try.func22, name_ne _ (by kernel_rfl), rfl⟩, (prgOpen_call _ _ _ _ _ _ _ _ _ _ none _ _ hc.1 (byteAll hc.2.1) hc.2.2.1 (byteAll hc.2.2.2.1) rfl (by intro x hx; simp at hx) hc.2.2.2.2.1 (byteAll hc.2.2.2.2.2.1) hc.2.2.2.2.2.2).nilArg 2 rfl⟩
      · cases h
    · cases h
  · split at h
    · cases h
      exact ⟨⟨_, Try.func16, name_ne _ (by kernel_rfl), rfl⟩, execF_ok follows_ok EM_ok Try.func16 (rcalls_exec _ _)⟩
    · cases h
  · split at h
    · split at h
      · rename_i hc
        cases h
        exact ⟨⟨_, Try.func23, name_ne _ (by kernel_rfl), rfl⟩, execF_ok follows_ok E7c_ok Try.func23 (ropen_exec _ _ _ _ _ _ _ _ _ _ _ _ _ hc.1 (byteAll hc.2.1) hc.2.2.1 (byteAll hc.2.2.2.1) hc.2.2.2.2.1 (byteAll hc.2.2.2.2.2.1) hc.2.2.2.2.2.2.1 (byteAll hc.2.2.2.2.2.2.2.1) hc.2.2.2.2.2.2.2.2)⟩
      · cases h
    · cases h
  · exact orc7c_ok f ds r h
def E7d : Env := ⟨tyL, orc7d, false, noWk, noOrw⟩
theorem E7d_ok : EnvOk Try.prog E7d := ⟨tyL_ok, orc7d_ok, noOrw_ok⟩

def kA (i : Nat) : List Int := (List.range i).map fun (j : Nat) => IntKind.u8.wrap (IntKind.i64.wrap (192 + (j : Int)))
def iA (i : Nat) : List Int := (List.range i).map fun (j : Nat) => IntKind.u8.wrap (j : Int)
def iB (i : Nat) : List Int := (List.range i).map fun (j : Nat) => IntKind.u8.wrap ((8 + j : Nat) : Int)
theorem kA_16 : kA 16 = kx7 := by kernel_rfl
theorem iA_8 : iA 8 = ax7 := by kernel_rfl
theorem iB_23 : iB 23 = px7 := by kernel_rfl
theorem pSeal (K N A L : Nat) (c c2 c3 c4 : Option Nat) (k v x b : List Int) (t : Int) (h1 : k.length = K) (h2 : By k) (h3 : v.length = N) (h5 : By v) (h6 : x.length = A) (h8 : By x) (h9 : b.length = L) (h11 : By b) :
    E7d.orc 19 [.im 1 K c (.flat .u8 k), .im 1 N c2 (.flat .u8 v), .im 1 A c3 (.flat .u8 x), .im 1 L c4 (.flat .u8 b), .v (.int .i64 t)] = some (sealR k v x b t) := if_pos ⟨h1, h2.ok, h3, h5.ok, h6, h8.ok, h9, h11.ok⟩
theorem exSeal (c c2 c3 c4 : Option Nat) : E7d.orc 19 [.im 1 16 c (.flat .u8 kx7), .im 1 13 c2 (.flat .u8 nx7), .im 1 8 c3 (.flat .u8 ax7), .im 1 23 c4 (.flat .u8 px7), .v (.int .i64 8)] = some (ret2 (.own 1 31 5 (.flat .u8 cx7)) 0) := by
  rw [pSeal 16 13 8 23 c c2 c3 c4 kx7 nx7 ax7 px7 8 rfl (byteAll (by kernel_rfl)) rfl (byteAll (by kernel_rfl)) rfl (byteAll (by kernel_rfl)) rfl (byteAll (by kernel_rfl)), xseal]
set_option maxRecDepth 100000 in
set_option maxHeartbeats 4000000 in
theorem awake7_exec : execF E7d Try.f17 [] (ret1 (.v (.bool true))) := by
  ((conv => whnf); repeat ((first | refine ⟨_, rfl, ?_⟩ | refine ⟨by decide, ?_⟩ | refine ⟨rfl, ?_⟩ | refine ⟨fun _ => ?_, fun h => absurd h (by decide)⟩ | refine ⟨fun h => absurd h (by decide), fun _ => ?_⟩ | refine ⟨inI_of (by omega), ?_⟩ | refine ⟨⟨rfl, inI_of (by omega)⟩, ?_⟩ | refine ⟨⟨rfl, by decide⟩, ?_⟩ | (apply Exists.intro; refine ⟨?_, ?_⟩; ((try simp only); (try simp only [Nat.zero_add]); (try simp only [Nat.mul_one]); (try simp only [Int.toNat_natCast]); exact at_g (by omega))) | (apply Exists.intro; refine ⟨?_, ?_⟩; ((try simp only); (try simp only [Nat.zero_add]); (try simp only [Nat.mul_one]); (try simp only [Int.toNat_natCast]); exact put_flat (by omega))) | refine ⟨_, cut_all (by omega), ?_⟩ | refine ⟨_, lay_all (by omega) (by omega), ?_⟩ | refine ⟨_, lay_all (by (try simp only); (try simp only [List.length_replicate]); (try simp only [List.length_cons]); (try simp only [List.length_nil]); omega) (by omega), ?_⟩ | refine ⟨by omega, ?_⟩ | refine ⟨len_flat (by omega), ?_⟩ | refine ⟨apart_uv _ _ _, ?_⟩ | refine ⟨_, resSlot_own rfl (by omega) (by first | exact .inl rfl | exact .inr ⟨rfl, rfl⟩), ?_⟩ | refine ⟨(by kernel_rfl : regB _ = true), ?_⟩ | refine ⟨⟨rfl, inI_of (by omega), by decide⟩, ?_⟩ | (apply Exists.intro; refine ⟨?_, ?_⟩; ((try simp only); (try simp only [Nat.zero_add]); (try simp only [Nat.mul_one]); (try simp only [Int.toNat_natCast]); exact at_drop_g (by omega))) | (apply Exists.intro; refine ⟨?_, ?_⟩; ((try simp only); (try simp only [Nat.zero_add]); (try simp only [Nat.mul_one]); (try simp only [Int.toNat_natCast]); exact cut_rest (by omega)))); conv => whnf))
  refine .inl ⟨fun m st => ∃ i : Nat, m = 16 - i ∧ i ≤ 16 ∧ st = ⟨[.poison, .sl 1 128 0 i none, nilV, nilV, .poison, .poison, .poison, .poison, iv .i64 i, .poison, .poison, .poison, .poison, .poison, .poison, .poison, .poison, .poison, .poison, .poison, .poison, .poison, .poison, .poison, .poison, .poison, .poison, .poison, .poison, .poison, .poison, .poison, .poison, .poison, .poison, .poison, .poison, .poison, .poison, .poison, .poison, .poison, .poison, .poison, .poison, .poison, .poison, .poison, .poison, .poison, .poison, .poison, .poison, .poison, .poison, .poison, .poison, .poison, .poison, .poison, .poison, .poison, .poison, .poison, .poison, .poison, .poison, .poison, .poison, .poison, .poison], [(128, ⟨.flat .u8 (kA i), 5, true⟩)]⟩,
    ⟨[0, 4, 5, 6, 7, 9, 10, 11, 12, 13, 14, 15, 16, 17, 18, 19, 20, 21, 22, 23, 24, 25, 26, 27, 28, 29, 30, 31, 32, 33, 34, 35, 36, 37, 38, 39, 40, 41, 42, 43, 44, 45, 46, 47, 48, 49, 50, 51, 52, 53, 54, 55, 56, 57, 58, 59, 60, 61, 62, 63, 64, 65, 66, 67, 68, 69, 70], [.nil 1 128 1 5 (.flat .u8 [])], 16, 0, rfl, by omega, by kernel_rfl⟩, ?_⟩
  rintro _ _ ⟨i, rfl, hi, rfl⟩
  have hl : (kA i).length = i := by simp [kA]
  conv => whnf
  refine ⟨fun h => ?_, fun h => ?_⟩
  · have h := of_decide_eq_true h
    have e1 : IntKind.i64.wrap ((i : Int) + 1) = ((i + 1 : Nat) : Int) := by rw [wrap64 (by omega)]; omega
    ((conv => whnf); repeat ((first | refine ⟨_, append_grow (cnt := 1) rfl rfl rfl rfl rfl hl rfl (by omega) (by omega), ?_⟩ | refine ⟨_, rfl, ?_⟩ | refine ⟨by decide, ?_⟩ | refine ⟨rfl, ?_⟩ | refine ⟨fun _ => ?_, fun h => absurd h (by decide)⟩ | refine ⟨fun h => absurd h (by decide), fun _ => ?_⟩ | refine ⟨inI_of (by omega), ?_⟩ | refine ⟨⟨rfl, inI_of (by omega)⟩, ?_⟩ | refine ⟨⟨rfl, by decide⟩, ?_⟩ | (apply Exists.intro; refine ⟨?_, ?_⟩; ((try simp only); (try simp only [Nat.zero_add]); (try simp only [Nat.mul_one]); (try simp only [Int.toNat_natCast]); exact at_g (by omega))) | (apply Exists.intro; refine ⟨?_, ?_⟩; ((try simp only); (try simp only [Nat.zero_add]); (try simp only [Nat.mul_one]); (try simp only [Int.toNat_natCast]); exact put_flat (by omega))) | refine ⟨_, cut_all (by omega), ?_⟩ | refine ⟨_, lay_all (by omega) (by omega), ?_⟩ | refine ⟨_, lay_all (by (try simp only); (try simp only [List.length_replicate]); (try simp only [List.length_cons]); (try simp only [List.length_nil]); omega) (by omega), ?_⟩ | refine ⟨by omega, ?_⟩ | refine ⟨len_flat (by omega), ?_⟩ | refine ⟨apart_uv _ _ _, ?_⟩ | refine ⟨_, resSlot_own rfl (by omega) (by first | exact .inl rfl | exact .inr ⟨rfl, rfl⟩), ?_⟩ | refine ⟨(by kernel_rfl : regB _ = true), ?_⟩ | refine ⟨⟨rfl, inI_of (by omega), by decide⟩, ?_⟩ | (apply Exists.intro; refine ⟨?_, ?_⟩; ((try simp only); (try simp only [Nat.zero_add]); (try simp only [Nat.mul_one]); (try simp only [Int.toNat_natCast]); exact at_drop_g (by omega))) | (apply Exists.intro; refine ⟨?_, ?_⟩; ((try simp only); (try simp only [Nat.zero_add]); (try simp only [Nat.mul_one]); (try simp only [Int.toNat_natCast]); exact cut_rest (by omega)))); conv => whnf))
    refine ⟨[0, 4, 5, 6, 7, 9, 10, 11, 12, 13, 14, 15, 16, 17, 18, 19, 20, 21, 22, 23, 24, 25, 26, 27, 28, 29, 30, 31, 32, 33, 34, 35, 36, 37, 38, 39, 40, 41, 42, 43, 44, 45, 46, 47, 48, 49, 50, 51, 52, 53, 54, 55, 56, 57, 58, 59, 60, 61, 62, 63, 64, 65, 66, 67, 68, 69, 70], [120], 16 - (i + 1), ?_, i + 1, rfl, by omega, ?_⟩
    · omega
    · rw [← e1, show kA (i + 1) = kA i ++ [IntKind.u8.wrap (IntKind.i64.wrap (192 + (i : Int)))] from map_succ _ _]
      kernel_rfl
  have h := of_decide_eq_false h
  have hi' : i = 16 := by omega
  subst hi'
  rw [kA_16]
  ((conv => whnf); repeat ((first | refine ⟨_, rfl, ?_⟩ | refine ⟨by decide, ?_⟩ | refine ⟨rfl, ?_⟩ | refine ⟨fun _ => ?_, fun h => absurd h (by decide)⟩ | refine ⟨fun h => absurd h (by decide), fun _ => ?_⟩ | refine ⟨inI_of (by omega), ?_⟩ | refine ⟨⟨rfl, inI_of (by omega)⟩, ?_⟩ | refine ⟨⟨rfl, by decide⟩, ?_⟩ | (apply Exists.intro; refine ⟨?_, ?_⟩; ((try simp only); (try simp only [Nat.zero_add]); (try simp only [Nat.mul_one]); (try simp only [Int.toNat_natCast]); exact at_g (by omega))) | (apply Exists.intro; refine ⟨?_, ?_⟩; ((try simp only); (try simp only [Nat.zero_add]); (try simp only [Nat.mul_one]); (try simp only [Int.toNat_natCast]); exact put_flat (by omega))) | refine ⟨_, cut_all (by omega), ?_⟩ | refine ⟨_, lay_all (by omega) (by omega), ?_⟩ | refine ⟨_, lay_all (by (try simp only); (try simp only [List.length_replicate]); (try simp only [List.length_cons]); (try simp only [List.length_nil]); omega) (by omega), ?_⟩ | refine ⟨by omega, ?_⟩ | refine ⟨len_flat (by omega), ?_⟩ | refine ⟨apart_uv _ _ _, ?_⟩ | refine ⟨_, resSlot_own rfl (by omega) (by first | exact .inl rfl | exact .inr ⟨rfl, rfl⟩), ?_⟩ | refine ⟨(by kernel_rfl : regB _ = true), ?_⟩ | refine ⟨⟨rfl, inI_of (by omega), by decide⟩, ?_⟩ | (apply Exists.intro; refine ⟨?_, ?_⟩; ((try simp only); (try simp only [Nat.zero_add]); (try simp only [Nat.mul_one]); (try simp only [Int.toNat_natCast]); exact at_drop_g (by omega))) | (apply Exists.intro; refine ⟨?_, ?_⟩; ((try simp only); (try simp only [Nat.zero_add]); (try simp only [Nat.mul_one]); (try simp only [Int.toNat_natCast]); exact cut_rest (by omega)))); conv => whnf))
  refine .inl ⟨fun m st => ∃ (i p q : Nat), m = 31 - i ∧ i ≤ 31 ∧ (i ≤ 8 ∧ p = i ∧ q = 0 ∨ 8 ≤ i ∧ p = 8 ∧ q = i - 8) ∧ st = ⟨[.poison, .sl 1 128 0 16 none, .sl 1 216 0 p none, .sl 1 256 0 q none, .poison, .poison, .poison, .poison, .poison, .poison, .poison, .poison, .poison, .poison, .poison, .poison, .poison, .poison, iv .i64 i, .poison, .poison, .poison, .poison, .poison, .poison, .poison, .poison, .poison, .poison, .poison, .poison, .poison, .poison, .poison, .poison, .poison, .poison, .poison, .poison, .poison, .poison, .poison, .poison, .poison, .poison, .poison, .poison, .poison, .poison, .poison, .poison, .poison, .poison, .poison, .poison, .poison, .poison, .poison, .poison, .poison, .poison, .poison, .poison, .poison, .poison, .poison, .poison, .poison, .poison, .poison, .poison],
      [(256, ⟨.flat .u8 (iB q), 5, true⟩), (216, ⟨.flat .u8 (iA p), 5, true⟩), (128, ⟨.flat .u8 kx7, 5, true⟩)]⟩,
    ⟨[0, 4, 5, 6, 7, 8, 9, 10, 11, 12, 13, 14, 15, 16, 17, 19, 20, 21, 22, 23, 24, 25, 26, 27, 28, 29, 30, 31, 32, 33, 34, 35, 36, 37, 38, 39, 40, 41, 42, 43, 44, 45, 46, 47, 48, 49, 50, 51, 52, 53, 54, 55, 56, 57, 58, 59, 60, 61, 62, 63, 64, 65, 66, 67, 68, 69, 70], [.nil 2 216 1 5 (.flat .u8 []), .nil 3 256 1 5 (.flat .u8 [])], 31, 0, 0, 0, rfl, by omega, by omega, by kernel_rfl⟩, ?_⟩
  rintro _ _ ⟨i, p, q, rfl, hi, hpq, rfl⟩
  have hlp : (iA p).length = p := by simp [iA]
  have hlq : (iB q).length = q := by simp [iB]
  conv => whnf
  refine ⟨fun h => ?_, fun h => ?_⟩
  · have h := of_decide_eq_true h
    have e1 : IntKind.i64.wrap ((i : Int) + 1) = ((i + 1 : Nat) : Int) := by rw [wrap64 (by omega)]; omega
    by_cases h8 : i < 8
    · have q1 : decide ((i : Int) < 8) = true := by simp; omega
      have hp : p = i := by omega
      subst hp
      ((conv => whnf); repeat ((first | refine ⟨fun _ => ?_, fun h => absurd ((q1).symm.trans h) (by decide)⟩ | refine ⟨fun h => absurd ((q1).symm.trans h) (by decide), fun _ => ?_⟩ | refine ⟨_, append_grow (cnt := 1) rfl rfl rfl rfl rfl hlp rfl (by omega) (by omega), ?_⟩ | refine ⟨_, rfl, ?_⟩ | refine ⟨by decide, ?_⟩ | refine ⟨rfl, ?_⟩ | refine ⟨fun _ => ?_, fun h => absurd h (by decide)⟩ | refine ⟨fun h => absurd h (by decide), fun _ => ?_⟩ | refine ⟨inI_of (by omega), ?_⟩ | refine ⟨⟨rfl, inI_of (by omega)⟩, ?_⟩ | refine ⟨⟨rfl, by decide⟩, ?_⟩ | (apply Exists.intro; refine ⟨?_, ?_⟩; ((try simp only); (try simp only [Nat.zero_add]); (try simp only [Nat.mul_one]); (try simp only [Int.toNat_natCast]); exact at_g (by omega))) | (apply Exists.intro; refine ⟨?_, ?_⟩; ((try simp only); (try simp only [Nat.zero_add]); (try simp only [Nat.mul_one]); (try simp only [Int.toNat_natCast]); exact put_flat (by omega))) | refine ⟨_, cut_all (by omega), ?_⟩ | refine ⟨_, lay_all (by omega) (by omega), ?_⟩ | refine ⟨_, lay_all (by (try simp only); (try simp only [List.length_replicate]); (try simp only [List.length_cons]); (try simp only [List.length_nil]); omega) (by omega), ?_⟩ | refine ⟨by omega, ?_⟩ | refine ⟨len_flat (by omega), ?_⟩ | refine ⟨apart_uv _ _ _, ?_⟩ | refine ⟨_, resSlot_own rfl (by omega) (by first | exact .inl rfl | exact .inr ⟨rfl, rfl⟩), ?_⟩ | refine ⟨(by kernel_rfl : regB _ = true), ?_⟩ | refine ⟨⟨rfl, inI_of (by omega), by decide⟩, ?_⟩ | (apply Exists.intro; refine ⟨?_, ?_⟩; ((try simp only); (try simp only [Nat.zero_add]); (try simp only [Nat.mul_one]); (try simp only [Int.toNat_natCast]); exact at_drop_g (by omega))) | (apply Exists.intro; refine ⟨?_, ?_⟩; ((try simp only); (try simp only [Nat.zero_add]); (try simp only [Nat.mul_one]); (try simp only [Int.toNat_natCast]); exact cut_rest (by omega)))); conv => whnf))
      refine ⟨[0, 4, 5, 6, 7, 8, 9, 10, 11, 12, 13, 14, 15, 16, 17, 19, 20, 21, 22, 23, 24, 25, 26, 27, 28, 29, 30, 31, 32, 33, 34, 35, 36, 37, 38, 39, 40, 41, 42, 43, 44, 45, 46, 47, 48, 49, 50, 51, 52, 53, 54, 55, 56, 57, 58, 59, 60, 61, 62, 63, 64, 65, 66, 67, 68, 69, 70], [208, 248, .first 128, .first 216, .first 256], 31 - (p + 1), ?_, p + 1, p + 1, q, rfl, by omega, by omega, ?_⟩
      · omega
      · rw [← e1, show iA (p + 1) = iA p ++ [IntKind.u8.wrap (p : Int)] from map_succ _ _]
        kernel_rfl
    · have q1 : decide ((i : Int) < 8) = false := by simp; omega
      have hq : i = 8 + q := by omega
      have hp : p = 8 := by omega
      subst hq hp
      ((conv => whnf); repeat ((first | refine ⟨fun _ => ?_, fun h => absurd ((q1).symm.trans h) (by decide)⟩ | refine ⟨fun h => absurd ((q1).symm.trans h) (by decide), fun _ => ?_⟩ | refine ⟨_, append_grow (cnt := 1) rfl rfl rfl rfl rfl hlq rfl (by omega) (by omega), ?_⟩ | refine ⟨_, rfl, ?_⟩ | refine ⟨by decide, ?_⟩ | refine ⟨rfl, ?_⟩ | refine ⟨fun _ => ?_, fun h => absurd h (by decide)⟩ | refine ⟨fun h => absurd h (by decide), fun _ => ?_⟩ | refine ⟨inI_of (by omega), ?_⟩ | refine ⟨⟨rfl, inI_of (by omega)⟩, ?_⟩ | refine ⟨⟨rfl, by decide⟩, ?_⟩ | (apply Exists.intro; refine ⟨?_, ?_⟩; ((try simp only); (try simp only [Nat.zero_add]); (try simp only [Nat.mul_one]); (try simp only [Int.toNat_natCast]); exact at_g (by omega))) | (apply Exists.intro; refine ⟨?_, ?_⟩; ((try simp only); (try simp only [Nat.zero_add]); (try simp only [Nat.mul_one]); (try simp only [Int.toNat_natCast]); exact put_flat (by omega))) | refine ⟨_, cut_all (by omega), ?_⟩ | refine ⟨_, lay_all (by omega) (by omega), ?_⟩ | refine ⟨_, lay_all (by (try simp only); (try simp only [List.length_replicate]); (try simp only [List.length_cons]); (try simp only [List.length_nil]); omega) (by omega), ?_⟩ | refine ⟨by omega, ?_⟩ | refine ⟨len_flat (by omega), ?_⟩ | refine ⟨apart_uv _ _ _, ?_⟩ | refine ⟨_, resSlot_own rfl (by omega) (by first | exact .inl rfl | exact .inr ⟨rfl, rfl⟩), ?_⟩ | refine ⟨(by kernel_rfl : regB _ = true), ?_⟩ | refine ⟨⟨rfl, inI_of (by omega), by decide⟩, ?_⟩ | (apply Exists.intro; refine ⟨?_, ?_⟩; ((try simp only); (try simp only [Nat.zero_add]); (try simp only [Nat.mul_one]); (try simp only [Int.toNat_natCast]); exact at_drop_g (by omega))) | (apply Exists.intro; refine ⟨?_, ?_⟩; ((try simp only); (try simp only [Nat.zero_add]); (try simp only [Nat.mul_one]); (try simp only [Int.toNat_natCast]); exact cut_rest (by omega)))); conv => whnf))
      refine ⟨[0, 4, 5, 6, 7, 8, 9, 10, 11, 12, 13, 14, 15, 16, 17, 19, 20, 21, 22, 23, 24, 25, 26, 27, 28, 29, 30, 31, 32, 33, 34, 35, 36, 37, 38, 39, 40, 41, 42, 43, 44, 45, 46, 47, 48, 49, 50, 51, 52, 53, 54, 55, 56, 57, 58, 59, 60, 61, 62, 63, 64, 65, 66, 67, 68, 69, 70], [208, 248, .first 128, .first 216, .first 256], 31 - (8 + q + 1), ?_, 8 + q + 1, 8, q + 1, rfl, by omega, by omega, ?_⟩
      · omega
      · rw [← e1, show iB (q + 1) = iB q ++ [IntKind.u8.wrap ((8 + q : Nat) : Int)] from map_succ _ _]
        kernel_rfl
  have h := of_decide_eq_false h
  have hi' : i = 31 := by omega
  have hp : p = 8 := by omega
  have hq : q = 23 := by omega
  subst hi' hp hq
  rw [iA_8, iB_23]
  ((conv => whnf); repeat ((first | refine ⟨_, exSeal _ _ _ _, ?_⟩ | refine ⟨_, expo_sl rfl (cut_all (l := kx7) (k := .u8) (n := 16) rfl), ?_⟩ | refine ⟨_, expo_sl rfl (cut_all (l := nx7) (k := .u8) (n := 13) rfl), ?_⟩ | refine ⟨_, expo_sl rfl (cut_all (l := ax7) (k := .u8) (n := 8) rfl), ?_⟩ | refine ⟨_, expo_sl rfl (cut_all (l := px7) (k := .u8) (n := 23) rfl), ?_⟩ | refine ⟨_, rfl, ?_⟩ | refine ⟨by decide, ?_⟩ | refine ⟨rfl, ?_⟩ | refine ⟨fun _ => ?_, fun h => absurd h (by decide)⟩ | refine ⟨fun h => absurd h (by decide), fun _ => ?_⟩ | refine ⟨inI_of (by omega), ?_⟩ | refine ⟨⟨rfl, inI_of (by omega)⟩, ?_⟩ | refine ⟨⟨rfl, by decide⟩, ?_⟩ | (apply Exists.intro; refine ⟨?_, ?_⟩; ((try simp only); (try simp only [Nat.zero_add]); (try simp only [Nat.mul_one]); (try simp only [Int.toNat_natCast]); exact at_g (by omega))) | (apply Exists.intro; refine ⟨?_, ?_⟩; ((try simp only); (try simp only [Nat.zero_add]); (try simp only [Nat.mul_one]); (try simp only [Int.toNat_natCast]); exact put_flat (by omega))) | refine ⟨_, cut_all (by omega), ?_⟩ | refine ⟨_, lay_all (by omega) (by omega), ?_⟩ | refine ⟨_, lay_all (by (try simp only); (try simp only [List.length_replicate]); (try simp only [List.length_cons]); (try simp only [List.length_nil]); omega) (by omega), ?_⟩ | refine ⟨by omega, ?_⟩ | refine ⟨len_flat (by omega), ?_⟩ | refine ⟨apart_uv _ _ _, ?_⟩ | refine ⟨_, resSlot_own rfl (by omega) (by first | exact .inl rfl | exact .inr ⟨rfl, rfl⟩), ?_⟩ | refine ⟨(by kernel_rfl : regB _ = true), ?_⟩ | refine ⟨⟨rfl, inI_of (by omega), by decide⟩, ?_⟩ | (apply Exists.intro; refine ⟨?_, ?_⟩; ((try simp only); (try simp only [Nat.zero_add]); (try simp only [Nat.mul_one]); (try simp only [Int.toNat_natCast]); exact at_drop_g (by omega))) | (apply Exists.intro; refine ⟨?_, ?_⟩; ((try simp only); (try simp only [Nat.zero_add]); (try simp only [Nat.mul_one]); (try simp only [Int.toNat_natCast]); exact cut_rest (by omega)))); conv => whnf))
  rfl

theorem ownedB_sl (β : Nat → Option Blk) (z b n : Nat) (c : Option Nat) : ownedB β (.sl z b 0 n c) = none ∨ ownedB β (.sl z b 0 n c) = some b := by
  unfold ownedB
  simp only
  split
  · split
    · exact .inr rfl
    · exact .inl rfl
  · exact .inl rfl
theorem apart_uu (β : Nat → Option Blk) {z b n z' b' n' : Nat} {c c' : Option Nat} (x : Value) (h : b ≠ b') : apartR β [.sl z b 0 n c, .sl z' b' 0 n' c', .v x] = true := by
  have h3 : ownedB β (.v x) = none := rfl
  simp only [apartR, List.length_cons, List.length_nil, List.all_eq_true, List.mem_range]
  intro i hi j hj
  have hi' : i = 0 ∨ i = 1 ∨ i = 2 := by omega
  have hj' : j = 0 ∨ j = 1 ∨ j = 2 := by omega
  have h' : b' ≠ b := fun e => h e.symm
  rcases hi' with rfl | rfl | rfl <;> rcases hj' with rfl | rfl | rfl <;> rcases ownedB_sl β z b n c with h1 | h1 <;> rcases ownedB_sl β z' b' n' c' with h2 | h2 <;> simp [h1, h2, h3, h, h']

/-! the statements' parameters -/
def pN (n : Int) : Nat := 7 + (n % 7).toNat
def pT (n : Int) : Int := 4 + 2 * (IntKind.i64.wrap (n.tdiv 7) % 7)
def paramsR (n : Int) : LRes := .many [.own 1 16 5 (.flat .u8 (smP n 16)), .own 1 (pN n) 5 (.flat .u8 (smP (IntKind.i64.wrap (n.tdiv 3)) (pN n))), .val (iv .i64 (pT n))]
theorem lMod7 (v n r : Int) (hn : 0 < n ∧ n < 9223372036854775808) (hr : v % n = r) : E7d.orc 13 [.v (.int .i64 v), .v (.int .i64 n)] = some (ret1 (.v (.int .i64 r))) := by
  subst hr
  exact if_pos hn
theorem lSome7 (k : Int) (m : Nat) (h : m ≤ 100000 ∧ 0 < m) : E7d.orc 14 [.v (.int .i64 k), .v (.int .i64 (m : Nat))] = some (LRes.one (.own 1 m 5 (.flat .u8 (smP k m)))) := if_pos h
set_option maxRecDepth 100000 in
set_option maxHeartbeats 1600000 in
theorem params_exec (n : Int) : execF E7d Try.f10 [iv .i64 n] (paramsR n) := by
  have oS := lSome7 n 16 (by decide)
  have oM := lMod7 n 7 _ (by decide) rfl
  have oM2 := lMod7 (IntKind.i64.wrap (n.tdiv 7)) 7 _ (by decide) rfl
  have ew : IntKind.i64.wrap (7 + n % 7) = ((pN n : Nat) : Int) := by rw [wrap64 (by omega), pN]; omega
  have oN := lSome7 (IntKind.i64.wrap (n.tdiv 3)) (pN n) (by rw [pN]; omega)
  have et : IntKind.i64.wrap (4 + IntKind.i64.wrap (2 * (IntKind.i64.wrap (n.tdiv 7) % 7))) = pT n := by rw [wrap64 (x := 2 * _) (by omega), wrap64 (by omega), pT]
  have hk2 : (smP (IntKind.i64.wrap (n.tdiv 3)) (pN n)).take (pN n * 1) = smP (IntKind.i64.wrap (n.tdiv 3)) (pN n) := List.take_of_length_le (by rw [smP_len]; omega)
  rw [← ew] at oN
  have hl1 := smP_len n 16
  have hl2 := smP_len (IntKind.i64.wrap (n.tdiv 3)) (pN n)
  ((conv => whnf); repeat ((first | refine ⟨_, oS, ?_⟩ | refine ⟨_, oM, ?_⟩ | refine ⟨_, oM2, ?_⟩ | refine ⟨_, oN, ?_⟩ | refine ⟨apart_uu _ _ (by decide), ?_⟩ | refine ⟨_, rfl, ?_⟩ | refine ⟨by decide, ?_⟩ | refine ⟨rfl, ?_⟩ | refine ⟨fun _ => ?_, fun h => absurd h (by decide)⟩ | refine ⟨fun h => absurd h (by decide), fun _ => ?_⟩ | refine ⟨inI_of (by omega), ?_⟩ | refine ⟨⟨rfl, inI_of (by omega)⟩, ?_⟩ | refine ⟨⟨rfl, by decide⟩, ?_⟩ | (apply Exists.intro; refine ⟨?_, ?_⟩; ((try simp only); (try simp only [Nat.zero_add]); (try simp only [Nat.mul_one]); (try simp only [Int.toNat_natCast]); exact at_g (by omega))) | (apply Exists.intro; refine ⟨?_, ?_⟩; ((try simp only); (try simp only [Nat.zero_add]); (try simp only [Nat.mul_one]); (try simp only [Int.toNat_natCast]); exact put_flat (by omega))) | refine ⟨_, cut_all (by omega), ?_⟩ | refine ⟨_, lay_all (by omega) (by omega), ?_⟩ | refine ⟨_, lay_all (by (try simp only); (try simp only [List.length_replicate]); (try simp only [List.length_cons]); (try simp only [List.length_nil]); omega) (by omega), ?_⟩ | refine ⟨by omega, ?_⟩ | refine ⟨len_flat (by omega), ?_⟩ | refine ⟨apart_uv _ _ _, ?_⟩ | refine ⟨_, resSlot_own rfl (by omega) (by first | exact .inl rfl | exact .inr ⟨rfl, rfl⟩), ?_⟩ | refine ⟨(by kernel_rfl : regB _ = true), ?_⟩ | refine ⟨⟨rfl, inI_of (by omega), by decide⟩, ?_⟩ | (apply Exists.intro; refine ⟨?_, ?_⟩; ((try simp only); (try simp only [Nat.zero_add]); (try simp only [Nat.mul_one]); (try simp only [Int.toNat_natCast]); exact at_drop_g (by omega))) | (apply Exists.intro; refine ⟨?_, ?_⟩; ((try simp only); (try simp only [Nat.zero_add]); (try simp only [Nat.mul_one]); (try simp only [Int.toNat_natCast]); exact cut_rest (by omega)))); conv => whnf))
  rw [hk2, et]
  rfl
end Go.Proofs.Ytgkccfjjjamhoaa
