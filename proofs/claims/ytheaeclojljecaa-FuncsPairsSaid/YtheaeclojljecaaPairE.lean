/- Log there and Exp back: the numbers at the ends, step by step, each reckoned by the kernel (no program here). (Written by gen42.py.) -/
import Derived.Test.YtheaeclojljecaaPairD
import Derived.KernelRfl
namespace Go.Proofs.Ytheaeclojljecaa
open Go.RowKit
set_option linter.unusedVariables false
set_option linter.unusedSimpArgs false

theorem logQ_is (z : Int) : logQ z = fmaV (fmaV (fmaV 1046711865 z 1049774373) z 1053609165) z 1059760811 := by
  unfold logQ alongV; simp only [List.foldl]

theorem along_is (r : Int) : alongV 985008993 r [1007192201, 1026206379, 1042983595, 1056964608, 1065353216, 1065353216] = fmaV (fmaV (fmaV (fmaV (fmaV (fmaV 985008993 r 1007192201) r 1026206379) r 1042983595) r 1056964608) r 1065353216) r 1065353216 := by
  unfold alongV; simp only [List.foldl]

theorem ym_1060439284 : logY (logS (subV 1060439284 1065353216)) = 3199300118 := by
  have h1 : subV 1060439284 1065353216 = 3197498904 := by kernel_rfl
  have h2 : addV 1073741824 3197498904 = 1071284858 := by kernel_rfl
  have h3 : divV 3197498904 1071284858 = 3190796491 := by kernel_rfl
  have h4 : mulV 3190796491 3190796491 = 1022436959 := by kernel_rfl
  have h5 : fmaV 1046711865 1022436959 1049774373 = 1049993873 := by kernel_rfl
  have h6 : fmaV 1049993873 1022436959 1053609165 = 1053897841 := by kernel_rfl
  have h7 : fmaV 1053897841 1022436959 1059760811 = 1059962610 := by kernel_rfl
  have h8 : mulV 1059962610 1022436959 = 1017359053 := by kernel_rfl
  have h9 : addV 3190796491 3190796491 = 3199185099 := by kernel_rfl
  have h10 : fmaV 3190796491 1017359053 3199185099 = 3199300118 := by kernel_rfl
  unfold logS logY
  rw [h1, h2, h3, h4, logQ_is, h5, h6, h7, h8, h9, h10]

theorem ym_1060439285 : logY (logS (subV 1060439285 1065353216)) = 3199300115 := by
  have h1 : subV 1060439285 1065353216 = 3197498902 := by kernel_rfl
  have h2 : addV 1073741824 3197498902 = 1071284858 := by kernel_rfl
  have h3 : divV 3197498902 1071284858 = 3190796488 := by kernel_rfl
  have h4 : mulV 3190796488 3190796488 = 1022436951 := by kernel_rfl
  have h5 : fmaV 1046711865 1022436951 1049774373 = 1049993873 := by kernel_rfl
  have h6 : fmaV 1049993873 1022436951 1053609165 = 1053897841 := by kernel_rfl
  have h7 : fmaV 1053897841 1022436951 1059760811 = 1059962610 := by kernel_rfl
  have h8 : mulV 1059962610 1022436951 = 1017359047 := by kernel_rfl
  have h9 : addV 3190796488 3190796488 = 3199185096 := by kernel_rfl
  have h10 : fmaV 3190796488 1017359047 3199185096 = 3199300115 := by kernel_rfl
  unfold logS logY
  rw [h1, h2, h3, h4, logQ_is, h5, h6, h7, h8, h9, h10]

theorem ym_1060439286 : logY (logS (subV 1060439286 1065353216)) = 3199300112 := by
  have h1 : subV 1060439286 1065353216 = 3197498900 := by kernel_rfl
  have h2 : addV 1073741824 3197498900 = 1071284859 := by kernel_rfl
  have h3 : divV 3197498900 1071284859 = 3190796485 := by kernel_rfl
  have h4 : mulV 3190796485 3190796485 = 1022436943 := by kernel_rfl
  have h5 : fmaV 1046711865 1022436943 1049774373 = 1049993873 := by kernel_rfl
  have h6 : fmaV 1049993873 1022436943 1053609165 = 1053897840 := by kernel_rfl
  have h7 : fmaV 1053897840 1022436943 1059760811 = 1059962610 := by kernel_rfl
  have h8 : mulV 1059962610 1022436943 = 1017359042 := by kernel_rfl
  have h9 : addV 3190796485 3190796485 = 3199185093 := by kernel_rfl
  have h10 : fmaV 3190796485 1017359042 3199185093 = 3199300112 := by kernel_rfl
  unfold logS logY
  rw [h1, h2, h3, h4, logQ_is, h5, h6, h7, h8, h9, h10]

theorem ym_1060439287 : logY (logS (subV 1060439287 1065353216)) = 3199300109 := by
  have h1 : subV 1060439287 1065353216 = 3197498898 := by kernel_rfl
  have h2 : addV 1073741824 3197498898 = 1071284860 := by kernel_rfl
  have h3 : divV 3197498898 1071284860 = 3190796482 := by kernel_rfl
  have h4 : mulV 3190796482 3190796482 = 1022436935 := by kernel_rfl
  have h5 : fmaV 1046711865 1022436935 1049774373 = 1049993873 := by kernel_rfl
  have h6 : fmaV 1049993873 1022436935 1053609165 = 1053897840 := by kernel_rfl
  have h7 : fmaV 1053897840 1022436935 1059760811 = 1059962610 := by kernel_rfl
  have h8 : mulV 1059962610 1022436935 = 1017359036 := by kernel_rfl
  have h9 : addV 3190796482 3190796482 = 3199185090 := by kernel_rfl
  have h10 : fmaV 3190796482 1017359036 3199185090 = 3199300109 := by kernel_rfl
  unfold logS logY
  rw [h1, h2, h3, h4, logQ_is, h5, h6, h7, h8, h9, h10]

theorem ym_1060439288 : logY (logS (subV 1060439288 1065353216)) = 3199300107 := by
  have h1 : subV 1060439288 1065353216 = 3197498896 := by kernel_rfl
  have h2 : addV 1073741824 3197498896 = 1071284860 := by kernel_rfl
  have h3 : divV 3197498896 1071284860 = 3190796480 := by kernel_rfl
  have h4 : mulV 3190796480 3190796480 = 1022436929 := by kernel_rfl
  have h5 : fmaV 1046711865 1022436929 1049774373 = 1049993873 := by kernel_rfl
  have h6 : fmaV 1049993873 1022436929 1053609165 = 1053897840 := by kernel_rfl
  have h7 : fmaV 1053897840 1022436929 1059760811 = 1059962610 := by kernel_rfl
  have h8 : mulV 1059962610 1022436929 = 1017359032 := by kernel_rfl
  have h9 : addV 3190796480 3190796480 = 3199185088 := by kernel_rfl
  have h10 : fmaV 3190796480 1017359032 3199185088 = 3199300107 := by kernel_rfl
  unfold logS logY
  rw [h1, h2, h3, h4, logQ_is, h5, h6, h7, h8, h9, h10]

theorem ym_1065353211 : logY (logS (subV 1065353211 1065353216)) = 3030384641 := by
  have h1 : subV 1065353211 1065353216 = 3030384640 := by kernel_rfl
  have h2 : addV 1073741824 3030384640 = 1073741822 := by kernel_rfl
  have h3 : divV 3030384640 1073741822 = 3021996033 := by kernel_rfl
  have h4 : mulV 3021996033 3021996033 = 684195843 := by kernel_rfl
  have h5 : fmaV 1046711865 684195843 1049774373 = 1049774373 := by kernel_rfl
  have h6 : fmaV 1049774373 684195843 1053609165 = 1053609165 := by kernel_rfl
  have h7 : fmaV 1053609165 684195843 1059760811 = 1059760811 := by kernel_rfl
  have h8 : mulV 1059760811 684195843 = 679826776 := by kernel_rfl
  have h9 : addV 3021996033 3021996033 = 3030384641 := by kernel_rfl
  have h10 : fmaV 3021996033 679826776 3030384641 = 3030384641 := by kernel_rfl
  unfold logS logY
  rw [h1, h2, h3, h4, logQ_is, h5, h6, h7, h8, h9, h10]

theorem ym_1065353212 : logY (logS (subV 1065353212 1065353216)) = 3028287489 := by
  have h1 : subV 1065353212 1065353216 = 3028287488 := by kernel_rfl
  have h2 : addV 1073741824 3028287488 = 1073741822 := by kernel_rfl
  have h3 : divV 3028287488 1073741822 = 3019898881 := by kernel_rfl
  have h4 : mulV 3019898881 3019898881 = 679477250 := by kernel_rfl
  have h5 : fmaV 1046711865 679477250 1049774373 = 1049774373 := by kernel_rfl
  have h6 : fmaV 1049774373 679477250 1053609165 = 1053609165 := by kernel_rfl
  have h7 : fmaV 1053609165 679477250 1059760811 = 1059760811 := by kernel_rfl
  have h8 : mulV 1059760811 679477250 = 673884846 := by kernel_rfl
  have h9 : addV 3019898881 3019898881 = 3028287489 := by kernel_rfl
  have h10 : fmaV 3019898881 673884846 3028287489 = 3028287489 := by kernel_rfl
  unfold logS logY
  rw [h1, h2, h3, h4, logQ_is, h5, h6, h7, h8, h9, h10]

theorem ym_1065353213 : logY (logS (subV 1065353213 1065353216)) = 3024093186 := by
  have h1 : subV 1065353213 1065353216 = 3024093184 := by kernel_rfl
  have h2 : addV 1073741824 3024093184 = 1073741822 := by kernel_rfl
  have h3 : divV 3024093184 1073741822 = 3015704578 := by kernel_rfl
  have h4 : mulV 3015704578 3015704578 = 672137219 := by kernel_rfl
  have h5 : fmaV 1046711865 672137219 1049774373 = 1049774373 := by kernel_rfl
  have h6 : fmaV 1049774373 672137219 1053609165 = 1053609165 := by kernel_rfl
  have h7 : fmaV 1053609165 672137219 1059760811 = 1059760811 := by kernel_rfl
  have h8 : mulV 1059760811 672137219 = 666894340 := by kernel_rfl
  have h9 : addV 3015704578 3015704578 = 3024093186 := by kernel_rfl
  have h10 : fmaV 3015704578 666894340 3024093186 = 3024093186 := by kernel_rfl
  unfold logS logY
  rw [h1, h2, h3, h4, logQ_is, h5, h6, h7, h8, h9, h10]

theorem ym_1065353214 : logY (logS (subV 1065353214 1065353216)) = 3019898881 := by
  have h1 : subV 1065353214 1065353216 = 3019898880 := by kernel_rfl
  have h2 : addV 1073741824 3019898880 = 1073741823 := by kernel_rfl
  have h3 : divV 3019898880 1073741823 = 3011510273 := by kernel_rfl
  have h4 : mulV 3011510273 3011510273 = 662700034 := by kernel_rfl
  have h5 : fmaV 1046711865 662700034 1049774373 = 1049774373 := by kernel_rfl
  have h6 : fmaV 1049774373 662700034 1053609165 = 1053609165 := by kernel_rfl
  have h7 : fmaV 1053609165 662700034 1059760811 = 1059760811 := by kernel_rfl
  have h8 : mulV 1059760811 662700034 = 657107630 := by kernel_rfl
  have h9 : addV 3011510273 3011510273 = 3019898881 := by kernel_rfl
  have h10 : fmaV 3011510273 657107630 3019898881 = 3019898881 := by kernel_rfl
  unfold logS logY
  rw [h1, h2, h3, h4, logQ_is, h5, h6, h7, h8, h9, h10]

theorem ym_1065353215 : logY (logS (subV 1065353215 1065353216)) = 3011510272 := by
  have h1 : subV 1065353215 1065353216 = 3011510272 := by kernel_rfl
  have h2 : addV 1073741824 3011510272 = 1073741824 := by kernel_rfl
  have h3 : divV 3011510272 1073741824 = 3003121664 := by kernel_rfl
  have h4 : mulV 3003121664 3003121664 = 645922816 := by kernel_rfl
  have h5 : fmaV 1046711865 645922816 1049774373 = 1049774373 := by kernel_rfl
  have h6 : fmaV 1049774373 645922816 1053609165 = 1053609165 := by kernel_rfl
  have h7 : fmaV 1053609165 645922816 1059760811 = 1059760811 := by kernel_rfl
  have h8 : mulV 1059760811 645922816 = 640330411 := by kernel_rfl
  have h9 : addV 3003121664 3003121664 = 3011510272 := by kernel_rfl
  have h10 : fmaV 3003121664 640330411 3011510272 = 3011510272 := by kernel_rfl
  unfold logS logY
  rw [h1, h2, h3, h4, logQ_is, h5, h6, h7, h8, h9, h10]

theorem ym_1065353216 : logY (logS (subV 1065353216 1065353216)) = 0 := by
  have h1 : subV 1065353216 1065353216 = 0 := by kernel_rfl
  have h2 : addV 1073741824 0 = 1073741824 := by kernel_rfl
  have h3 : divV 0 1073741824 = 0 := by kernel_rfl
  have h4 : mulV 0 0 = 0 := by kernel_rfl
  have h5 : fmaV 1046711865 0 1049774373 = 1049774373 := by kernel_rfl
  have h6 : fmaV 1049774373 0 1053609165 = 1053609165 := by kernel_rfl
  have h7 : fmaV 1053609165 0 1059760811 = 1059760811 := by kernel_rfl
  have h8 : mulV 1059760811 0 = 0 := by kernel_rfl
  have h9 : addV 0 0 = 0 := by kernel_rfl
  have h10 : fmaV 0 0 0 = 0 := by kernel_rfl
  unfold logS logY
  rw [h1, h2, h3, h4, logQ_is, h5, h6, h7, h8, h9, h10]

theorem ym_1065353217 : logY (logS (subV 1065353217 1065353216)) = 872415232 := by
  have h1 : subV 1065353217 1065353216 = 872415232 := by kernel_rfl
  have h2 : addV 1073741824 872415232 = 1073741824 := by kernel_rfl
  have h3 : divV 872415232 1073741824 = 864026624 := by kernel_rfl
  have h4 : mulV 864026624 864026624 = 662700032 := by kernel_rfl
  have h5 : fmaV 1046711865 662700032 1049774373 = 1049774373 := by kernel_rfl
  have h6 : fmaV 1049774373 662700032 1053609165 = 1053609165 := by kernel_rfl
  have h7 : fmaV 1053609165 662700032 1059760811 = 1059760811 := by kernel_rfl
  have h8 : mulV 1059760811 662700032 = 657107627 := by kernel_rfl
  have h9 : addV 864026624 864026624 = 872415232 := by kernel_rfl
  have h10 : fmaV 864026624 657107627 872415232 = 872415232 := by kernel_rfl
  unfold logS logY
  rw [h1, h2, h3, h4, logQ_is, h5, h6, h7, h8, h9, h10]

theorem ym_1065353218 : logY (logS (subV 1065353218 1065353216)) = 880803838 := by
  have h1 : subV 1065353218 1065353216 = 880803840 := by kernel_rfl
  have h2 : addV 1073741824 880803840 = 1073741825 := by kernel_rfl
  have h3 : divV 880803840 1073741825 = 872415230 := by kernel_rfl
  have h4 : mulV 872415230 872415230 = 679477244 := by kernel_rfl
  have h5 : fmaV 1046711865 679477244 1049774373 = 1049774373 := by kernel_rfl
  have h6 : fmaV 1049774373 679477244 1053609165 = 1053609165 := by kernel_rfl
  have h7 : fmaV 1053609165 679477244 1059760811 = 1059760811 := by kernel_rfl
  have h8 : mulV 1059760811 679477244 = 673884840 := by kernel_rfl
  have h9 : addV 872415230 872415230 = 880803838 := by kernel_rfl
  have h10 : fmaV 872415230 673884840 880803838 = 880803838 := by kernel_rfl
  unfold logS logY
  rw [h1, h2, h3, h4, logQ_is, h5, h6, h7, h8, h9, h10]

theorem ym_1068827887 : logY (logS (subV 1068827887 1065353216)) = 1051816460 := by
  have h1 : subV 1068827887 1065353216 = 1054086076 := by kernel_rfl
  have h2 : addV 1073741824 1054086076 = 1075479160 := by kernel_rfl
  have h3 : divV 1054086076 1075479160 = 1043312833 := by kernel_rfl
  have h4 : mulV 1043312833 1043312833 = 1022436932 := by kernel_rfl
  have h5 : fmaV 1046711865 1022436932 1049774373 = 1049993873 := by kernel_rfl
  have h6 : fmaV 1049993873 1022436932 1053609165 = 1053897840 := by kernel_rfl
  have h7 : fmaV 1053897840 1022436932 1059760811 = 1059962610 := by kernel_rfl
  have h8 : mulV 1059962610 1022436932 = 1017359034 := by kernel_rfl
  have h9 : addV 1043312833 1043312833 = 1051701441 := by kernel_rfl
  have h10 : fmaV 1043312833 1017359034 1051701441 = 1051816460 := by kernel_rfl
  unfold logS logY
  rw [h1, h2, h3, h4, logQ_is, h5, h6, h7, h8, h9, h10]

theorem ym_1068827888 : logY (logS (subV 1068827888 1065353216)) = 1051816463 := by
  have h1 : subV 1068827888 1065353216 = 1054086080 := by kernel_rfl
  have h2 : addV 1073741824 1054086080 = 1075479160 := by kernel_rfl
  have h3 : divV 1054086080 1075479160 = 1043312836 := by kernel_rfl
  have h4 : mulV 1043312836 1043312836 = 1022436940 := by kernel_rfl
  have h5 : fmaV 1046711865 1022436940 1049774373 = 1049993873 := by kernel_rfl
  have h6 : fmaV 1049993873 1022436940 1053609165 = 1053897840 := by kernel_rfl
  have h7 : fmaV 1053897840 1022436940 1059760811 = 1059962610 := by kernel_rfl
  have h8 : mulV 1059962610 1022436940 = 1017359040 := by kernel_rfl
  have h9 : addV 1043312836 1043312836 = 1051701444 := by kernel_rfl
  have h10 : fmaV 1043312836 1017359040 1051701444 = 1051816463 := by kernel_rfl
  unfold logS logY
  rw [h1, h2, h3, h4, logQ_is, h5, h6, h7, h8, h9, h10]

theorem ym_1068827889 : logY (logS (subV 1068827889 1065353216)) = 1051816466 := by
  have h1 : subV 1068827889 1065353216 = 1054086084 := by kernel_rfl
  have h2 : addV 1073741824 1054086084 = 1075479160 := by kernel_rfl
  have h3 : divV 1054086084 1075479160 = 1043312839 := by kernel_rfl
  have h4 : mulV 1043312839 1043312839 = 1022436948 := by kernel_rfl
  have h5 : fmaV 1046711865 1022436948 1049774373 = 1049993873 := by kernel_rfl
  have h6 : fmaV 1049993873 1022436948 1053609165 = 1053897841 := by kernel_rfl
  have h7 : fmaV 1053897841 1022436948 1059760811 = 1059962610 := by kernel_rfl
  have h8 : mulV 1059962610 1022436948 = 1017359045 := by kernel_rfl
  have h9 : addV 1043312839 1043312839 = 1051701447 := by kernel_rfl
  have h10 : fmaV 1043312839 1017359045 1051701447 = 1051816466 := by kernel_rfl
  unfold logS logY
  rw [h1, h2, h3, h4, logQ_is, h5, h6, h7, h8, h9, h10]

theorem ym_1068827890 : logY (logS (subV 1068827890 1065353216)) = 1051816468 := by
  have h1 : subV 1068827890 1065353216 = 1054086088 := by kernel_rfl
  have h2 : addV 1073741824 1054086088 = 1075479161 := by kernel_rfl
  have h3 : divV 1054086088 1075479161 = 1043312841 := by kernel_rfl
  have h4 : mulV 1043312841 1043312841 = 1022436954 := by kernel_rfl
  have h5 : fmaV 1046711865 1022436954 1049774373 = 1049993873 := by kernel_rfl
  have h6 : fmaV 1049993873 1022436954 1053609165 = 1053897841 := by kernel_rfl
  have h7 : fmaV 1053897841 1022436954 1059760811 = 1059962610 := by kernel_rfl
  have h8 : mulV 1059962610 1022436954 = 1017359049 := by kernel_rfl
  have h9 : addV 1043312841 1043312841 = 1051701449 := by kernel_rfl
  have h10 : fmaV 1043312841 1017359049 1051701449 = 1051816468 := by kernel_rfl
  unfold logS logY
  rw [h1, h2, h3, h4, logQ_is, h5, h6, h7, h8, h9, h10]

theorem ym_1068827891 : logY (logS (subV 1068827891 1065353216)) = 1051816471 := by
  have h1 : subV 1068827891 1065353216 = 1054086092 := by kernel_rfl
  have h2 : addV 1073741824 1054086092 = 1075479162 := by kernel_rfl
  have h3 : divV 1054086092 1075479162 = 1043312844 := by kernel_rfl
  have h4 : mulV 1043312844 1043312844 = 1022436962 := by kernel_rfl
  have h5 : fmaV 1046711865 1022436962 1049774373 = 1049993873 := by kernel_rfl
  have h6 : fmaV 1049993873 1022436962 1053609165 = 1053897841 := by kernel_rfl
  have h7 : fmaV 1053897841 1022436962 1059760811 = 1059962610 := by kernel_rfl
  have h8 : mulV 1059962610 1022436962 = 1017359055 := by kernel_rfl
  have h9 : addV 1043312844 1043312844 = 1051701452 := by kernel_rfl
  have h10 : fmaV 1043312844 1017359055 1051701452 = 1051816471 := by kernel_rfl
  unfold logS logY
  rw [h1, h2, h3, h4, logQ_is, h5, h6, h7, h8, h9, h10]

theorem lx_1052050676 : logI 1052050676 = 3213170066 := by
  have h1 : logV 1052050676 = 1060439284 := by kernel_rfl
  have h2 : logK 1052050676 = (-1) := by kernel_rfl
  have h3 : frmV (-1) = 3212836864 := by kernel_rfl
  have h4 : fmaV 3212836864 901758606 3199300118 = 3199300166 := by kernel_rfl
  have h5 : fmaV 3212836864 1060205056 3199300166 = 3213170066 := by kernel_rfl
  unfold logI
  rw [show nanB 2 1052050676 = false by decide, show nouB 2 1052050676 = false by decide, show fS 2 1052050676 = false by decide, show infB 2 1052050676 = false by decide, if_neg (by decide), if_neg (by decide), if_neg (by decide), if_neg (by decide), h1, h2, h3, ym_1060439284]
  unfold logT
  rw [h4, h5]

theorem ex_1052050676 : expI 3213170066 = 1052050674 := by
  have h1 : mulV 3213170066 1069066811 = 3217031168 := by kernel_rfl
  have h2 : toV 3217031168 = (-2) := by kernel_rfl
  have hn : expN 3213170066 = (-2) := by unfold expN; rw [h1, h2]
  have h3 : frmV (-2) = 3221225472 := by kernel_rfl
  have h4 : negV 3221225472 = 1073741824 := by kernel_rfl
  have h5 : fmaV 1073741824 1060205056 3213170066 = 1051816376 := by kernel_rfl
  have h6 : fmaV 1073741824 901758606 1051816376 = 1051816472 := by kernel_rfl
  have a0 : fmaV 985008993 1051816472 1007192201 = 1007709049 := by kernel_rfl
  have a1 : fmaV 1007709049 1051816472 1026206379 = 1027026433 := by kernel_rfl
  have a2 : fmaV 1027026433 1051816472 1042983595 = 1044023737 := by kernel_rfl
  have a3 : fmaV 1044023737 1051816472 1056964608 = 1058023819 := by kernel_rfl
  have a4 : fmaV 1058023819 1051816472 1065353216 = 1066990398 := by kernel_rfl
  have a5 : fmaV 1066990398 1051816472 1065353216 = 1068827890 := by kernel_rfl
  have hs : scaV 1068827890 (-2) = 1052050674 := by kernel_rfl
  unfold expI expP expR
  rw [show nanB 2 3213170066 = false by decide, show lesB 2 1118925336 3213170066 = false by kernel_rfl, show lesB 2 3213170066 3268407733 = false by kernel_rfl, if_neg (by decide), if_neg (by decide), if_neg (by decide), hn, h3, h4, h5, h6, along_is, a0, a1, a2, a3, a4, a5, hs]

theorem lx_1060439284 : logI 1060439284 = 3199300118 := by
  have h1 : logV 1060439284 = 1060439284 := by kernel_rfl
  have h2 : logK 1060439284 = 0 := by kernel_rfl
  have h3 : frmV 0 = 0 := by kernel_rfl
  have h4 : fmaV 0 901758606 3199300118 = 3199300118 := by kernel_rfl
  have h5 : fmaV 0 1060205056 3199300118 = 3199300118 := by kernel_rfl
  unfold logI
  rw [show nanB 2 1060439284 = false by decide, show nouB 2 1060439284 = false by decide, show fS 2 1060439284 = false by decide, show infB 2 1060439284 = false by decide, if_neg (by decide), if_neg (by decide), if_neg (by decide), if_neg (by decide), h1, h2, h3, ym_1060439284]
  unfold logT
  rw [h4, h5]

theorem ex_1060439284 : expI 3199300118 = 1060439286 := by
  have h1 : mulV 3199300118 1069066811 = 3204448253 := by kernel_rfl
  have h2 : toV 3204448253 = 0 := by kernel_rfl
  have hn : expN 3199300118 = 0 := by unfold expN; rw [h1, h2]
  have h3 : frmV 0 = 0 := by kernel_rfl
  have h4 : negV 0 = 2147483648 := by kernel_rfl
  have h5 : fmaV 2147483648 1060205056 3199300118 = 3199300118 := by kernel_rfl
  have h6 : fmaV 2147483648 901758606 3199300118 = 3199300118 := by kernel_rfl
  have a0 : fmaV 985008993 3199300118 1007192201 = 1006675353 := by kernel_rfl
  have a1 : fmaV 1006675353 3199300118 1026206379 = 1025475889 := by kernel_rfl
  have a2 : fmaV 1025475889 3199300118 1042983595 = 1042077797 := by kernel_rfl
  have a3 : fmaV 1042077797 3199300118 1056964608 = 1055183391 := by kernel_rfl
  have a4 : fmaV 1055183391 3199300118 1065353216 = 1062754608 := by kernel_rfl
  have a5 : fmaV 1062754608 3199300118 1065353216 = 1060439286 := by kernel_rfl
  have hs : scaV 1060439286 0 = 1060439286 := by kernel_rfl
  unfold expI expP expR
  rw [show nanB 2 3199300118 = false by decide, show lesB 2 1118925336 3199300118 = false by kernel_rfl, show lesB 2 3199300118 3268407733 = false by kernel_rfl, if_neg (by decide), if_neg (by decide), if_neg (by decide), hn, h3, h4, h5, h6, along_is, a0, a1, a2, a3, a4, a5, hs]

theorem lx_1068827892 : logI 1068827892 = 1051816474 := by
  have h1 : logV 1068827892 = 1060439284 := by kernel_rfl
  have h2 : logK 1068827892 = 1 := by kernel_rfl
  have h3 : frmV 1 = 1065353216 := by kernel_rfl
  have h4 : fmaV 1065353216 901758606 3199300118 = 3199300070 := by kernel_rfl
  have h5 : fmaV 1065353216 1060205056 3199300070 = 1051816474 := by kernel_rfl
  unfold logI
  rw [show nanB 2 1068827892 = false by decide, show nouB 2 1068827892 = false by decide, show fS 2 1068827892 = false by decide, show infB 2 1068827892 = false by decide, if_neg (by decide), if_neg (by decide), if_neg (by decide), if_neg (by decide), h1, h2, h3, ym_1060439284]
  unfold logT
  rw [h4, h5]

theorem ex_1068827892 : expI 1051816474 = 1068827894 := by
  have h1 : mulV 1051816474 1069066811 = 1056964609 := by kernel_rfl
  have h2 : toV 1056964609 = 1 := by kernel_rfl
  have hn : expN 1051816474 = 1 := by unfold expN; rw [h1, h2]
  have h3 : frmV 1 = 1065353216 := by kernel_rfl
  have h4 : negV 1065353216 = 3212836864 := by kernel_rfl
  have h5 : fmaV 3212836864 1060205056 1051816474 = 3199300070 := by kernel_rfl
  have h6 : fmaV 3212836864 901758606 3199300070 = 3199300118 := by kernel_rfl
  have a0 : fmaV 985008993 3199300118 1007192201 = 1006675353 := by kernel_rfl
  have a1 : fmaV 1006675353 3199300118 1026206379 = 1025475889 := by kernel_rfl
  have a2 : fmaV 1025475889 3199300118 1042983595 = 1042077797 := by kernel_rfl
  have a3 : fmaV 1042077797 3199300118 1056964608 = 1055183391 := by kernel_rfl
  have a4 : fmaV 1055183391 3199300118 1065353216 = 1062754608 := by kernel_rfl
  have a5 : fmaV 1062754608 3199300118 1065353216 = 1060439286 := by kernel_rfl
  have hs : scaV 1060439286 1 = 1068827894 := by kernel_rfl
  unfold expI expP expR
  rw [show nanB 2 1051816474 = false by decide, show lesB 2 1118925336 1051816474 = false by kernel_rfl, show lesB 2 1051816474 3268407733 = false by kernel_rfl, if_neg (by decide), if_neg (by decide), if_neg (by decide), hn, h3, h4, h5, h6, along_is, a0, a1, a2, a3, a4, a5, hs]

theorem lx_1077216500 : logI 1077216500 = 1065686418 := by
  have h1 : logV 1077216500 = 1060439284 := by kernel_rfl
  have h2 : logK 1077216500 = 2 := by kernel_rfl
  have h3 : frmV 2 = 1073741824 := by kernel_rfl
  have h4 : fmaV 1073741824 901758606 3199300118 = 3199300022 := by kernel_rfl
  have h5 : fmaV 1073741824 1060205056 3199300022 = 1065686418 := by kernel_rfl
  unfold logI
  rw [show nanB 2 1077216500 = false by decide, show nouB 2 1077216500 = false by decide, show fS 2 1077216500 = false by decide, show infB 2 1077216500 = false by decide, if_neg (by decide), if_neg (by decide), if_neg (by decide), if_neg (by decide), h1, h2, h3, ym_1060439284]
  unfold logT
  rw [h4, h5]

theorem ex_1077216500 : expI 1065686418 = 1077216501 := by
  have h1 : mulV 1065686418 1069066811 = 1069547520 := by kernel_rfl
  have h2 : toV 1069547520 = 2 := by kernel_rfl
  have hn : expN 1065686418 = 2 := by unfold expN; rw [h1, h2]
  have h3 : frmV 2 = 1073741824 := by kernel_rfl
  have h4 : negV 1073741824 = 3221225472 := by kernel_rfl
  have h5 : fmaV 3221225472 1060205056 1065686418 = 3199300024 := by kernel_rfl
  have h6 : fmaV 3221225472 901758606 3199300024 = 3199300120 := by kernel_rfl
  have a0 : fmaV 985008993 3199300120 1007192201 = 1006675353 := by kernel_rfl
  have a1 : fmaV 1006675353 3199300120 1026206379 = 1025475888 := by kernel_rfl
  have a2 : fmaV 1025475888 3199300120 1042983595 = 1042077797 := by kernel_rfl
  have a3 : fmaV 1042077797 3199300120 1056964608 = 1055183391 := by kernel_rfl
  have a4 : fmaV 1055183391 3199300120 1065353216 = 1062754607 := by kernel_rfl
  have a5 : fmaV 1062754607 3199300120 1065353216 = 1060439285 := by kernel_rfl
  have hs : scaV 1060439285 2 = 1077216501 := by kernel_rfl
  unfold expI expP expR
  rw [show nanB 2 1065686418 = false by decide, show lesB 2 1118925336 1065686418 = false by kernel_rfl, show lesB 2 1065686418 3268407733 = false by kernel_rfl, if_neg (by decide), if_neg (by decide), if_neg (by decide), hn, h3, h4, h5, h6, along_is, a0, a1, a2, a3, a4, a5, hs]

theorem lx_1052050675 : logI 1052050675 = 3213170066 := by
  have h1 : logV 1052050675 = 1068827891 := by kernel_rfl
  have h2 : logK 1052050675 = (-2) := by kernel_rfl
  have h3 : frmV (-2) = 3221225472 := by kernel_rfl
  have h4 : fmaV 3221225472 901758606 1051816471 = 1051816375 := by kernel_rfl
  have h5 : fmaV 3221225472 1060205056 1051816375 = 3213170066 := by kernel_rfl
  unfold logI
  rw [show nanB 2 1052050675 = false by decide, show nouB 2 1052050675 = false by decide, show fS 2 1052050675 = false by decide, show infB 2 1052050675 = false by decide, if_neg (by decide), if_neg (by decide), if_neg (by decide), if_neg (by decide), h1, h2, h3, ym_1068827891]
  unfold logT
  rw [h4, h5]

theorem ex_1052050675 : expI 3213170066 = 1052050674 := by
  have h1 : mulV 3213170066 1069066811 = 3217031168 := by kernel_rfl
  have h2 : toV 3217031168 = (-2) := by kernel_rfl
  have hn : expN 3213170066 = (-2) := by unfold expN; rw [h1, h2]
  have h3 : frmV (-2) = 3221225472 := by kernel_rfl
  have h4 : negV 3221225472 = 1073741824 := by kernel_rfl
  have h5 : fmaV 1073741824 1060205056 3213170066 = 1051816376 := by kernel_rfl
  have h6 : fmaV 1073741824 901758606 1051816376 = 1051816472 := by kernel_rfl
  have a0 : fmaV 985008993 1051816472 1007192201 = 1007709049 := by kernel_rfl
  have a1 : fmaV 1007709049 1051816472 1026206379 = 1027026433 := by kernel_rfl
  have a2 : fmaV 1027026433 1051816472 1042983595 = 1044023737 := by kernel_rfl
  have a3 : fmaV 1044023737 1051816472 1056964608 = 1058023819 := by kernel_rfl
  have a4 : fmaV 1058023819 1051816472 1065353216 = 1066990398 := by kernel_rfl
  have a5 : fmaV 1066990398 1051816472 1065353216 = 1068827890 := by kernel_rfl
  have hs : scaV 1068827890 (-2) = 1052050674 := by kernel_rfl
  unfold expI expP expR
  rw [show nanB 2 3213170066 = false by decide, show lesB 2 1118925336 3213170066 = false by kernel_rfl, show lesB 2 3213170066 3268407733 = false by kernel_rfl, if_neg (by decide), if_neg (by decide), if_neg (by decide), hn, h3, h4, h5, h6, along_is, a0, a1, a2, a3, a4, a5, hs]

theorem lx_1060439283 : logI 1060439283 = 3199300121 := by
  have h1 : logV 1060439283 = 1068827891 := by kernel_rfl
  have h2 : logK 1060439283 = (-1) := by kernel_rfl
  have h3 : frmV (-1) = 3212836864 := by kernel_rfl
  have h4 : fmaV 3212836864 901758606 1051816471 = 1051816423 := by kernel_rfl
  have h5 : fmaV 3212836864 1060205056 1051816423 = 3199300121 := by kernel_rfl
  unfold logI
  rw [show nanB 2 1060439283 = false by decide, show nouB 2 1060439283 = false by decide, show fS 2 1060439283 = false by decide, show infB 2 1060439283 = false by decide, if_neg (by decide), if_neg (by decide), if_neg (by decide), if_neg (by decide), h1, h2, h3, ym_1068827891]
  unfold logT
  rw [h4, h5]

theorem ex_1060439283 : expI 3199300121 = 1060439282 := by
  have h1 : mulV 3199300121 1069066811 = 3204448257 := by kernel_rfl
  have h2 : toV 3204448257 = (-1) := by kernel_rfl
  have hn : expN 3199300121 = (-1) := by unfold expN; rw [h1, h2]
  have h3 : frmV (-1) = 3212836864 := by kernel_rfl
  have h4 : negV 3212836864 = 1065353216 := by kernel_rfl
  have h5 : fmaV 1065353216 1060205056 3199300121 = 1051816423 := by kernel_rfl
  have h6 : fmaV 1065353216 901758606 1051816423 = 1051816471 := by kernel_rfl
  have a0 : fmaV 985008993 1051816471 1007192201 = 1007709049 := by kernel_rfl
  have a1 : fmaV 1007709049 1051816471 1026206379 = 1027026432 := by kernel_rfl
  have a2 : fmaV 1027026432 1051816471 1042983595 = 1044023737 := by kernel_rfl
  have a3 : fmaV 1044023737 1051816471 1056964608 = 1058023819 := by kernel_rfl
  have a4 : fmaV 1058023819 1051816471 1065353216 = 1066990398 := by kernel_rfl
  have a5 : fmaV 1066990398 1051816471 1065353216 = 1068827890 := by kernel_rfl
  have hs : scaV 1068827890 (-1) = 1060439282 := by kernel_rfl
  unfold expI expP expR
  rw [show nanB 2 3199300121 = false by decide, show lesB 2 1118925336 3199300121 = false by kernel_rfl, show lesB 2 3199300121 3268407733 = false by kernel_rfl, if_neg (by decide), if_neg (by decide), if_neg (by decide), hn, h3, h4, h5, h6, along_is, a0, a1, a2, a3, a4, a5, hs]

theorem lx_1068827891 : logI 1068827891 = 1051816471 := by
  have h1 : logV 1068827891 = 1068827891 := by kernel_rfl
  have h2 : logK 1068827891 = 0 := by kernel_rfl
  have h3 : frmV 0 = 0 := by kernel_rfl
  have h4 : fmaV 0 901758606 1051816471 = 1051816471 := by kernel_rfl
  have h5 : fmaV 0 1060205056 1051816471 = 1051816471 := by kernel_rfl
  unfold logI
  rw [show nanB 2 1068827891 = false by decide, show nouB 2 1068827891 = false by decide, show fS 2 1068827891 = false by decide, show infB 2 1068827891 = false by decide, if_neg (by decide), if_neg (by decide), if_neg (by decide), if_neg (by decide), h1, h2, h3, ym_1068827891]
  unfold logT
  rw [h4, h5]

theorem ex_1068827891 : expI 1051816471 = 1068827890 := by
  have h1 : mulV 1051816471 1069066811 = 1056964606 := by kernel_rfl
  have h2 : toV 1056964606 = 0 := by kernel_rfl
  have hn : expN 1051816471 = 0 := by unfold expN; rw [h1, h2]
  have h3 : frmV 0 = 0 := by kernel_rfl
  have h4 : negV 0 = 2147483648 := by kernel_rfl
  have h5 : fmaV 2147483648 1060205056 1051816471 = 1051816471 := by kernel_rfl
  have h6 : fmaV 2147483648 901758606 1051816471 = 1051816471 := by kernel_rfl
  have a0 : fmaV 985008993 1051816471 1007192201 = 1007709049 := by kernel_rfl
  have a1 : fmaV 1007709049 1051816471 1026206379 = 1027026432 := by kernel_rfl
  have a2 : fmaV 1027026432 1051816471 1042983595 = 1044023737 := by kernel_rfl
  have a3 : fmaV 1044023737 1051816471 1056964608 = 1058023819 := by kernel_rfl
  have a4 : fmaV 1058023819 1051816471 1065353216 = 1066990398 := by kernel_rfl
  have a5 : fmaV 1066990398 1051816471 1065353216 = 1068827890 := by kernel_rfl
  have hs : scaV 1068827890 0 = 1068827890 := by kernel_rfl
  unfold expI expP expR
  rw [show nanB 2 1051816471 = false by decide, show lesB 2 1118925336 1051816471 = false by kernel_rfl, show lesB 2 1051816471 3268407733 = false by kernel_rfl, if_neg (by decide), if_neg (by decide), if_neg (by decide), hn, h3, h4, h5, h6, along_is, a0, a1, a2, a3, a4, a5, hs]

theorem lx_1077216499 : logI 1077216499 = 1065686418 := by
  have h1 : logV 1077216499 = 1068827891 := by kernel_rfl
  have h2 : logK 1077216499 = 1 := by kernel_rfl
  have h3 : frmV 1 = 1065353216 := by kernel_rfl
  have h4 : fmaV 1065353216 901758606 1051816471 = 1051816519 := by kernel_rfl
  have h5 : fmaV 1065353216 1060205056 1051816519 = 1065686418 := by kernel_rfl
  unfold logI
  rw [show nanB 2 1077216499 = false by decide, show nouB 2 1077216499 = false by decide, show fS 2 1077216499 = false by decide, show infB 2 1077216499 = false by decide, if_neg (by decide), if_neg (by decide), if_neg (by decide), if_neg (by decide), h1, h2, h3, ym_1068827891]
  unfold logT
  rw [h4, h5]

theorem ex_1077216499 : expI 1065686418 = 1077216501 := by
  have h1 : mulV 1065686418 1069066811 = 1069547520 := by kernel_rfl
  have h2 : toV 1069547520 = 2 := by kernel_rfl
  have hn : expN 1065686418 = 2 := by unfold expN; rw [h1, h2]
  have h3 : frmV 2 = 1073741824 := by kernel_rfl
  have h4 : negV 1073741824 = 3221225472 := by kernel_rfl
  have h5 : fmaV 3221225472 1060205056 1065686418 = 3199300024 := by kernel_rfl
  have h6 : fmaV 3221225472 901758606 3199300024 = 3199300120 := by kernel_rfl
  have a0 : fmaV 985008993 3199300120 1007192201 = 1006675353 := by kernel_rfl
  have a1 : fmaV 1006675353 3199300120 1026206379 = 1025475888 := by kernel_rfl
  have a2 : fmaV 1025475888 3199300120 1042983595 = 1042077797 := by kernel_rfl
  have a3 : fmaV 1042077797 3199300120 1056964608 = 1055183391 := by kernel_rfl
  have a4 : fmaV 1055183391 3199300120 1065353216 = 1062754607 := by kernel_rfl
  have a5 : fmaV 1062754607 3199300120 1065353216 = 1060439285 := by kernel_rfl
  have hs : scaV 1060439285 2 = 1077216501 := by kernel_rfl
  unfold expI expP expR
  rw [show nanB 2 1065686418 = false by decide, show lesB 2 1118925336 1065686418 = false by kernel_rfl, show lesB 2 1065686418 3268407733 = false by kernel_rfl, if_neg (by decide), if_neg (by decide), if_neg (by decide), hn, h3, h4, h5, h6, along_is, a0, a1, a2, a3, a4, a5, hs]

theorem kp_m2 : frmV (-2) = 3221225472 ∧ negV 3221225472 = 1073741824 ∧ rv 3221225472 = (-2) ∧ rv 1073741824 = -(-2) ∧ fmaV 3221225472 901758606 3199300115 = 3199300211 ∧ fmaV 3221225472 1060205056 3199300211 = 3218984605 ∧ expN 3218984605 = (-2) ∧ fmaV 3221225472 901758606 1051816468 = 1051816372 ∧ fmaV 3221225472 1060205056 1051816372 = 3213170067 ∧ expN 3213170067 = (-2) := by
  have n1 : mulV 3218984605 1069066811 = 3223322623 := by kernel_rfl
  have n2 : mulV 3213170067 1069066811 = 3217031169 := by kernel_rfl
  refine ⟨by kernel_rfl, by kernel_rfl, by decide +kernel, by decide +kernel, by kernel_rfl, by kernel_rfl, ?_, by kernel_rfl, by kernel_rfl, ?_⟩
  · unfold expN; rw [n1]; kernel_rfl
  · unfold expN; rw [n2]; kernel_rfl

theorem kp_m1 : frmV (-1) = 3212836864 ∧ negV 3212836864 = 1065353216 ∧ rv 3212836864 = (-1) ∧ rv 1065353216 = -(-1) ∧ fmaV 3212836864 901758606 3199300115 = 3199300163 ∧ fmaV 3212836864 1060205056 3199300163 = 3213170065 ∧ expN 3213170065 = (-1) ∧ fmaV 3212836864 901758606 1051816468 = 1051816420 ∧ fmaV 3212836864 1060205056 1051816420 = 3199300124 ∧ expN 3199300124 = (-1) := by
  have n1 : mulV 3213170065 1069066811 = 3217031166 := by kernel_rfl
  have n2 : mulV 3199300124 1069066811 = 3204448259 := by kernel_rfl
  refine ⟨by kernel_rfl, by kernel_rfl, by decide +kernel, by decide +kernel, by kernel_rfl, by kernel_rfl, ?_, by kernel_rfl, by kernel_rfl, ?_⟩
  · unfold expN; rw [n1]; kernel_rfl
  · unfold expN; rw [n2]; kernel_rfl

theorem kp_p0 : frmV 0 = 0 ∧ negV 0 = 2147483648 ∧ rv 0 = 0 ∧ rv 2147483648 = -0 ∧ fmaV 0 901758606 3199300115 = 3199300115 ∧ fmaV 0 1060205056 3199300115 = 3199300115 ∧ expN 3199300115 = 0 ∧ fmaV 0 901758606 1051816468 = 1051816468 ∧ fmaV 0 1060205056 1051816468 = 1051816468 ∧ expN 1051816468 = 0 := by
  have n1 : mulV 3199300115 1069066811 = 3204448249 := by kernel_rfl
  have n2 : mulV 1051816468 1069066811 = 1056964602 := by kernel_rfl
  refine ⟨by kernel_rfl, by kernel_rfl, by decide +kernel, by decide +kernel, by kernel_rfl, by kernel_rfl, ?_, by kernel_rfl, by kernel_rfl, ?_⟩
  · unfold expN; rw [n1]; kernel_rfl
  · unfold expN; rw [n2]; kernel_rfl

theorem kp_p1 : frmV 1 = 1065353216 ∧ negV 1065353216 = 3212836864 ∧ rv 1065353216 = 1 ∧ rv 3212836864 = -1 ∧ fmaV 1065353216 901758606 3199300115 = 3199300067 ∧ fmaV 1065353216 1060205056 3199300067 = 1051816477 ∧ expN 1051816477 = 1 ∧ fmaV 1065353216 901758606 1051816468 = 1051816516 ∧ fmaV 1065353216 1060205056 1051816516 = 1065686417 ∧ expN 1065686417 = 1 := by
  have n1 : mulV 1051816477 1069066811 = 1056964612 := by kernel_rfl
  have n2 : mulV 1065686417 1069066811 = 1069547518 := by kernel_rfl
  refine ⟨by kernel_rfl, by kernel_rfl, by decide +kernel, by decide +kernel, by kernel_rfl, by kernel_rfl, ?_, by kernel_rfl, by kernel_rfl, ?_⟩
  · unfold expN; rw [n1]; kernel_rfl
  · unfold expN; rw [n2]; kernel_rfl

theorem kp_p2 : frmV 2 = 1073741824 ∧ negV 1073741824 = 3221225472 ∧ rv 1073741824 = 2 ∧ rv 3221225472 = -2 ∧ fmaV 1073741824 901758606 3199300115 = 3199300019 ∧ fmaV 1073741824 1060205056 3199300019 = 1065686419 ∧ expN 1065686419 = 2 ∧ fmaV 1073741824 901758606 1051816468 = 1051816564 ∧ fmaV 1073741824 1060205056 1051816564 = 1071500957 ∧ expN 1071500957 = 2 := by
  have n1 : mulV 1065686419 1069066811 = 1069547521 := by kernel_rfl
  have n2 : mulV 1071500957 1069066811 = 1075838975 := by kernel_rfl
  refine ⟨by kernel_rfl, by kernel_rfl, by decide +kernel, by decide +kernel, by kernel_rfl, by kernel_rfl, ?_, by kernel_rfl, by kernel_rfl, ?_⟩
  · unfold expN; rw [n1]; kernel_rfl
  · unfold expN; rw [n2]; kernel_rfl
end Go.Proofs.Ytheaeclojljecaa
