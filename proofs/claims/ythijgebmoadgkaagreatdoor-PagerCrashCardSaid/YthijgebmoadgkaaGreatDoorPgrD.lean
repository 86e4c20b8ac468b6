import Derived.Test.YthijgebmoadgkaaGreatDoorPgrC
set_option linter.unusedVariables false
set_option linter.unusedSimpArgs false
namespace Go.Proofs.YthijgebmoadgkaaGreatDoor
open Go.ChangeShapes Go.WideShapes Go.ChangeAt Go.RowKit
theorem zDs (a b c d : Int) (s t : ByteArray) (w : World) : (Op.equalIn 10000 131 (.agg #[.int .i64 a, .int .i64 b, .string s]) (.agg #[.int .i64 c, .int .i64 d, .string t])).run Tryz.prog w = .ok (decide (a = c /\ b = d /\ s = t)) w := by
 have u3 := Tryz.underlying3;have a3 := Tryz.isAgg3;have z3 := Tryz.sizeOf3;have u9 := Tryz.underlying9;have a9 := Tryz.isAgg9;have z9 := Tryz.sizeOf9;rw [show (10000 : Nat) = 9999 + 1 from rfl, run_equalIn_struct w 9999 131 _ _ (by simp [Program.fieldsOf, Tryz.underlying131]) (by kernel_rfl)];simp only [Program.fieldsOf, Tryz.underlying131];by_cases h2 : s = t
 · by_cases h0 : a = c <;> by_cases h1 : b = d <;> simp [Op.eqFields, go_sem, part, u3, a3, z3, u9, a9, z9, h0, h1, h2]
 · have h3 : ¬ s.toList = t.toList := by have := zA8 h2; simpa using this
   by_cases h0 : a = c <;> by_cases h1 : b = d <;> simp [Op.eqFields, go_sem, part, u3, a3, z3, u9, a9, z9, h0, h1, h2, h3]
def fM (most : Nat) (x : Pag) : Bool := decide (x.1 = 1 /\ x.2 = zJ (rdU x.2) (rdF x.2) (rdR x.2)) && decide (1 <= rdU x.2) && decide (rdU x.2 <= most) && decide (rdF x.2 < rdU x.2)
theorem mH {most : Nat} {x : Pag} : fM most x = true ↔ Jq most x := by
 unfold fM;simp only [Bool.and_eq_true, decide_eq_true_eq];exact ⟨fun ⟨⟨⟨⟨a, b⟩, c⟩, d⟩, e⟩ => ⟨a, b, c, d, e⟩, fun h => ⟨⟨⟨⟨h.kind, h.room⟩, h.lo⟩, h.hi⟩, h.free⟩⟩
set_option maxRecDepth 10000 in
theorem zEy (most : Nat) (x : Pag) (w : World) (hx : x.2.size = 496) : Calls Tryz.prog 83 #[shV 0 x, .int .i64 (most : Int)] w fun e w' => e = .returned (.bool (fM most x)) /\ Below w.heap.size w w' := by
 have HH := Lh (fun w => fT 0 x w hx);have HS := Lh (fun w => qD (rdU x.2) (rdF x.2) (rdR x.2) w (zK2 _) (zK4 _) (fun i _ => zK8 _ i));have HB := Lh (show fM most x = (decide (x.1 = 1 /\ x.2 = zJ (rdU x.2) (rdF x.2) (rdR x.2)) && decide (1 <= rdU x.2) && decide (rdU x.2 <= most) && decide (rdF x.2 < rdU x.2)) from rfl);have HQ := fun w => zDs 0 (x.1 : Int) 0 1 x.2 (zJ (rdU x.2) (rdF x.2) (rdR x.2)) w
 have e1 : decide ((0 : Int) = 0 /\ (x.1 : Int) = 1 /\ x.2 = zJ (rdU x.2) (rdF x.2) (rdR x.2)) = decide (x.1 = 1 /\ x.2 = zJ (rdU x.2) (rdF x.2) (rdR x.2)) := by
   congr 1
   simp only [true_and];exact propext ⟨fun ⟨a, b⟩ => ⟨by omega, b⟩, fun ⟨a, b⟩ => ⟨by omega, b⟩⟩
 rw [e1] at HQ;clear e1;obtain ⟨kd, t⟩ := x;simp only at *;obtain ⟨HR, hHR⟩ : ∃ HR, HR = zJ (rdU t) (rdF t) (rdR t) := ⟨_, rfl⟩
 rw [<- hHR] at HQ HS HB;obtain ⟨r, hr⟩ : ∃ r, r = rdR t := ⟨_, rfl⟩
 obtain ⟨u, hu'⟩ : ∃ u, u = rdU t := ⟨_, rfl⟩
 obtain ⟨f, hf'⟩ : ∃ f, f = rdF t := ⟨_, rfl⟩
 rw [<- hr, <- hu', <- hf'] at HH HS;rw [<- hu', <- hf'] at HB;obtain ⟨b1, hb1⟩ : ∃ b1, b1 = decide (kd = 1 /\ t = HR) := ⟨_, rfl⟩
 rw [<- hb1] at HQ HB;rw [HB.out];clear hHR hr hu' hf' hb1 HB hx;have HC := Lh (show hC u f r = #[.int .i64 (u : Int), .int .i64 (f : Int), .int .u64 (r 0 : Int), .int .u64 (r 1 : Int), .int .u64 (r 2 : Int), .int .u64 (r 3 : Int), .int .u64 (r 4 : Int), .int .u64 (r 5 : Int), .int .u64 (r 6 : Int), .int .u64 (r 7 : Int)] from rfl);have HQh := Lh HQ;unfold shV hV at HH;unfold shV hV at HS;unfold shV;simp only at HH HS ⊢;rw [HC.out] at HH HS;clear HQ HC;go_enter Tryz.func83, Tryz.ntmps83;go_upto_region 2 with (go_at_call 172; refine (HH.out _).mono ?_; rintro e w2 ⟨rfl, hb2⟩; have O2 := Lh ((Own.made w 131 #[.int .i64 0, .int .i64 (kd : Int), .string t]).keep hb2); have B2 := Lh (then_ (zG w 131 #[.int .i64 0, .int .i64 (kd : Int), .string t]) hb2 (by simp)); clear hb2)
 have OH := (Own.made w2 133 #[.int .i64 (u : Int), .int .i64 (f : Int), .int .u64 (r 0 : Int), .int .u64 (r 1 : Int), .int .u64 (r 2 : Int), .int .u64 (r 3 : Int), .int .u64 (r 4 : Int), .int .u64 (r 5 : Int), .int .u64 (r 6 : Int), .int .u64 (r 7 : Int)])
 have OO := O2.out.more (.cells #[.int .i64 (u : Int), .int .i64 (f : Int), .int .u64 (r 0 : Int), .int .u64 (r 1 : Int), .int .u64 (r 2 : Int), .int .u64 (r 3 : Int), .int .u64 (r 4 : Int), .int .u64 (r 5 : Int), .int .u64 (r 6 : Int), .int .u64 (r 7 : Int)] 133);have BB := B2.out.alloc B2.out.size (.cells #[.int .i64 (u : Int), .int .i64 (f : Int), .int .u64 (r 0 : Int), .int .u64 (r 1 : Int), .int .u64 (r 2 : Int), .int .u64 (r 3 : Int), .int .u64 (r 4 : Int), .int .u64 (r 5 : Int), .int .u64 (r 6 : Int), .int .u64 (r 7 : Int)] 133);go_name_world W0 hW0;rw [hW0] at OH OO BB;clear hW0 O2 B2;replace OH := Lh OH;replace OO := Lh OO;replace BB := Lh BB;cases b1 with
 | false =>
   have tt := True.intro;refine zA (fun W => Own W w.heap.size 131 #[.int .i64 0, .int .i64 (kd : Int), .string t] /\ Own W w2.heap.size 133 #[.int .i64 (u : Int), .int .i64 (f : Int), .int .u64 (r 0 : Int), .int .u64 (r 1 : Int), .int .u64 (r 2 : Int), .int .u64 (r 3 : Int), .int .u64 (r 4 : Int), .int .u64 (r 5 : Int), .int .u64 (r 6 : Int), .int .u64 (r 7 : Int)]) (0 :: 1 :: 3 :: 4 :: 5 :: 6 :: 7 :: 8 :: 9 :: 10 :: 11 :: 12 :: 13 :: 14 :: 15 :: 16 :: 17 :: 18 :: 19 :: 20 :: 21 :: 22 :: []) (0 :: 1 :: 6 :: 11 :: 17 :: 19 :: []) (0 :: 1 :: 2 :: 3 :: 4 :: 5 :: 6 :: 7 :: 8 :: 9 :: 10 :: 11 :: 12 :: 13 :: 14 :: 15 :: 16 :: 17 :: 18 :: 19 :: 20 :: 21 :: 22 :: []) (by kernel_rfl) (by kernel_rfl) rfl (by kernel_rfl) rfl (⟨OO.out.drawn, OH.out.drawn⟩) (by simp only [zU, List.filterMap_cons, List.filterMap_nil, List.getElem?_cons_zero, List.getElem?_cons_succ, Option.map_some]; exact rfl) ?_;iterate 2
     refine zC (v := ?_) rfl rfl (fun W hS => ?_) ?_;rotate_left
     · first
         | (conv => lhs; simp [go_sem, HQh.out, tt]
            first | done | exact rfl)
         | (have hS := hS rfl
            obtain ⟨q1, q2⟩ := hS;obtain ⟨q1, q3, q4⟩ := Own.at_ q1;obtain ⟨q2, q5, q6⟩ := Own.at_ q2;conv => lhs; simp [go_sem, *, HQh.out, tt]
            first | done | exact rfl)
     simp only [Act.put, lA, lZ, lS]
   refine zQ rfl rfl fun K hK => ?_
   go_wp2_with (go_at_call 73; refine (HS.out _).mono ?_; rintro e w3 ⟨rfl, hb3⟩)
   have O3 := Own.keep OO.out.drawn hb3;have H3 := Own.keep OH.out.drawn hb3;have B3 := Lh (then_ BB.out.drew hb3 BB.out.drew.size);refine hK _ _ ⟨O3, H3⟩ ?_;clear hK K hb3 O3 H3;iterate 2
     refine zC (v := ?_) rfl rfl (fun W hS => ?_) ?_;rotate_left
     · first
         | (conv => lhs; simp [go_sem, HQh.out, tt]
            first | done | exact rfl)
         | (have hS := hS rfl
            obtain ⟨q1, q2⟩ := hS;obtain ⟨q1, q3, q4⟩ := Own.at_ q1;obtain ⟨q2, q5, q6⟩ := Own.at_ q2;conv => lhs; simp [go_sem, *, HQh.out, tt]
            first | done | exact rfl)
     simp only [Act.put, lA, lZ, lS]
   refine zO rfl rfl ?_;simp only [Act.put, lA, lZ, lS];refine zO rfl rfl ?_;simp only [Act.put, lA, lZ, lS];refine zO rfl rfl ?_;simp only [Act.put, lA, lZ, lS];iterate 2
     refine zC (v := ?_) rfl rfl (fun W hS => ?_) ?_;rotate_left
     · first
         | (conv => lhs; simp [go_sem, HQh.out, tt]
            first | done | exact rfl)
         | (have hS := hS rfl
            obtain ⟨q1, q2⟩ := hS;obtain ⟨q1, q3, q4⟩ := Own.at_ q1;obtain ⟨q2, q5, q6⟩ := Own.at_ q2;conv => lhs; simp [go_sem, *, HQh.out, tt]
            first | done | exact rfl)
     simp only [Act.put, lA, lZ, lS]
   refine zO rfl rfl ?_;simp only [Act.put, lA, lZ, lS];refine zO rfl rfl ?_;simp only [Act.put, lA, lZ, lS];refine zO rfl rfl ?_;simp only [Act.put, lA, lZ, lS];refine zO rfl rfl ?_;simp only [Act.put, lA, lZ, lS];iterate 2
     refine zC (v := ?_) rfl rfl (fun W hS => ?_) ?_;rotate_left
     · first
         | (conv => lhs; simp [go_sem, HQh.out, tt]
            first | done | exact rfl)
         | (have hS := hS rfl
            obtain ⟨q1, q2⟩ := hS;obtain ⟨q1, q3, q4⟩ := Own.at_ q1;obtain ⟨q2, q5, q6⟩ := Own.at_ q2;conv => lhs; simp [go_sem, *, HQh.out, tt]
            first | done | exact rfl)
     simp only [Act.put, lA, lZ, lS]
   refine zO rfl rfl ?_;simp only [Act.put, lA, lZ, lS];refine zO rfl rfl ?_;simp only [Act.put, lA, lZ, lS];refine zO rfl rfl ?_;simp only [Act.put, lA, lZ, lS];refine zO rfl rfl ?_;simp only [Act.put, lA, lZ, lS];refine zO rfl rfl ?_;simp only [Act.put, lA, lZ, lS];iterate 2
     refine zC (v := ?_) rfl rfl (fun W hS => ?_) ?_;rotate_left
     · first
         | (conv => lhs; simp [go_sem, HQh.out, tt]
            first | done | exact rfl)
         | (have hS := hS rfl
            obtain ⟨q1, q2⟩ := hS;obtain ⟨q1, q3, q4⟩ := Own.at_ q1;obtain ⟨q2, q5, q6⟩ := Own.at_ q2;conv => lhs; simp [go_sem, *, HQh.out, tt]
            first | done | exact rfl)
     simp only [Act.put, lA, lZ, lS]
   refine zR ?_;go_wp2;go_ret;exact ⟨xP (by simp), B3.out⟩
 | true =>
  by_cases c2 : 1 <= u
  · by_cases c3 : u <= most
    · have d2 : decide ((1 : Int) <= (u : Int)) = true := by simpa using (by omega : (1 : Int) <= (u : Int))
      have d3 : decide ((u : Int) <= (most : Int)) = true := by simpa using c3
      have tt := And.intro d2 (And.intro d3 c3);refine zA (fun W => Own W w.heap.size 131 #[.int .i64 0, .int .i64 (kd : Int), .string t] /\ Own W w2.heap.size 133 #[.int .i64 (u : Int), .int .i64 (f : Int), .int .u64 (r 0 : Int), .int .u64 (r 1 : Int), .int .u64 (r 2 : Int), .int .u64 (r 3 : Int), .int .u64 (r 4 : Int), .int .u64 (r 5 : Int), .int .u64 (r 6 : Int), .int .u64 (r 7 : Int)]) (0 :: 1 :: 3 :: 4 :: 5 :: 6 :: 7 :: 8 :: 9 :: 10 :: 11 :: 12 :: 13 :: 14 :: 15 :: 16 :: 17 :: 18 :: 19 :: 20 :: 21 :: 22 :: []) (0 :: 1 :: 6 :: 11 :: 17 :: 19 :: []) (0 :: 1 :: 2 :: 3 :: 4 :: 5 :: 6 :: 7 :: 8 :: 9 :: 10 :: 11 :: 12 :: 13 :: 14 :: 15 :: 16 :: 17 :: 18 :: 19 :: 20 :: 21 :: 22 :: []) (by kernel_rfl) (by kernel_rfl) rfl (by kernel_rfl) rfl (⟨OO.out.drawn, OH.out.drawn⟩) (by simp only [zU, List.filterMap_cons, List.filterMap_nil, List.getElem?_cons_zero, List.getElem?_cons_succ, Option.map_some]; exact rfl) ?_;iterate 2
        refine zC (v := ?_) rfl rfl (fun W hS => ?_) ?_;rotate_left
        · first
            | (conv => lhs; simp [go_sem, HQh.out, tt]
               first | done | exact rfl)
            | (have hS := hS rfl
               obtain ⟨q1, q2⟩ := hS;obtain ⟨q1, q3, q4⟩ := Own.at_ q1;obtain ⟨q2, q5, q6⟩ := Own.at_ q2;conv => lhs; simp [go_sem, *, HQh.out, tt]
               first | done | exact rfl)
        simp only [Act.put, lA, lZ, lS]
      refine zQ rfl rfl fun K hK => ?_
      go_wp2_with (go_at_call 73; refine (HS.out _).mono ?_; rintro e w3 ⟨rfl, hb3⟩)
      have O3 := Own.keep OO.out.drawn hb3;have H3 := Own.keep OH.out.drawn hb3;have B3 := Lh (then_ BB.out.drew hb3 BB.out.drew.size);refine hK _ _ ⟨O3, H3⟩ ?_;clear hK K hb3 O3 H3;iterate 20
        refine zC (v := ?_) rfl rfl (fun W hS => ?_) ?_;rotate_left
        · first
            | (conv => lhs; simp [go_sem, HQh.out, tt]
               first | done | exact rfl)
            | (have hS := hS rfl
               obtain ⟨q1, q2⟩ := hS;obtain ⟨q1, q3, q4⟩ := Own.at_ q1;obtain ⟨q2, q5, q6⟩ := Own.at_ q2;conv => lhs; simp [go_sem, *, HQh.out, tt]
               first | done | exact rfl)
        simp only [Act.put, lA, lZ, lS]
      refine zR ?_;go_wp2;go_ret;exact ⟨xP (by simp [c2, c3]), B3.out⟩
    · have d2 : decide ((1 : Int) <= (u : Int)) = true := by simpa using (by omega : (1 : Int) <= (u : Int))
      have d3 : decide ((u : Int) <= (most : Int)) = false := by simpa using c3
      have tt := And.intro d2 (And.intro d3 c3);refine zA (fun W => Own W w.heap.size 131 #[.int .i64 0, .int .i64 (kd : Int), .string t] /\ Own W w2.heap.size 133 #[.int .i64 (u : Int), .int .i64 (f : Int), .int .u64 (r 0 : Int), .int .u64 (r 1 : Int), .int .u64 (r 2 : Int), .int .u64 (r 3 : Int), .int .u64 (r 4 : Int), .int .u64 (r 5 : Int), .int .u64 (r 6 : Int), .int .u64 (r 7 : Int)]) (0 :: 1 :: 3 :: 4 :: 5 :: 6 :: 7 :: 8 :: 9 :: 10 :: 11 :: 12 :: 13 :: 14 :: 15 :: 16 :: 17 :: 18 :: 19 :: 20 :: 21 :: 22 :: []) (0 :: 1 :: 6 :: 11 :: 17 :: 19 :: []) (0 :: 1 :: 2 :: 3 :: 4 :: 5 :: 6 :: 7 :: 8 :: 9 :: 10 :: 11 :: 12 :: 13 :: 14 :: 15 :: 16 :: 17 :: 18 :: 19 :: 20 :: 21 :: 22 :: []) (by kernel_rfl) (by kernel_rfl) rfl (by kernel_rfl) rfl (⟨OO.out.drawn, OH.out.drawn⟩) (by simp only [zU, List.filterMap_cons, List.filterMap_nil, List.getElem?_cons_zero, List.getElem?_cons_succ, Option.map_some]; exact rfl) ?_;iterate 2
        refine zC (v := ?_) rfl rfl (fun W hS => ?_) ?_;rotate_left
        · first
            | (conv => lhs; simp [go_sem, HQh.out, tt]
               first | done | exact rfl)
            | (have hS := hS rfl
               obtain ⟨q1, q2⟩ := hS;obtain ⟨q1, q3, q4⟩ := Own.at_ q1;obtain ⟨q2, q5, q6⟩ := Own.at_ q2;conv => lhs; simp [go_sem, *, HQh.out, tt]
               first | done | exact rfl)
        simp only [Act.put, lA, lZ, lS]
      refine zQ rfl rfl fun K hK => ?_
      go_wp2_with (go_at_call 73; refine (HS.out _).mono ?_; rintro e w3 ⟨rfl, hb3⟩)
      have O3 := Own.keep OO.out.drawn hb3;have H3 := Own.keep OH.out.drawn hb3;have B3 := Lh (then_ BB.out.drew hb3 BB.out.drew.size);refine hK _ _ ⟨O3, H3⟩ ?_;clear hK K hb3 O3 H3;iterate 13
        refine zC (v := ?_) rfl rfl (fun W hS => ?_) ?_;rotate_left
        · first
            | (conv => lhs; simp [go_sem, HQh.out, tt]
               first | done | exact rfl)
            | (have hS := hS rfl
               obtain ⟨q1, q2⟩ := hS;obtain ⟨q1, q3, q4⟩ := Own.at_ q1;obtain ⟨q2, q5, q6⟩ := Own.at_ q2;conv => lhs; simp [go_sem, *, HQh.out, tt]
               first | done | exact rfl)
        simp only [Act.put, lA, lZ, lS]
      refine zO rfl rfl ?_;simp only [Act.put, lA, lZ, lS];refine zO rfl rfl ?_;simp only [Act.put, lA, lZ, lS];refine zO rfl rfl ?_;simp only [Act.put, lA, lZ, lS];refine zO rfl rfl ?_;simp only [Act.put, lA, lZ, lS];refine zO rfl rfl ?_;simp only [Act.put, lA, lZ, lS];iterate 2
        refine zC (v := ?_) rfl rfl (fun W hS => ?_) ?_;rotate_left
        · first
            | (conv => lhs; simp [go_sem, HQh.out, tt]
               first | done | exact rfl)
            | (have hS := hS rfl
               obtain ⟨q1, q2⟩ := hS;obtain ⟨q1, q3, q4⟩ := Own.at_ q1;obtain ⟨q2, q5, q6⟩ := Own.at_ q2;conv => lhs; simp [go_sem, *, HQh.out, tt]
               first | done | exact rfl)
        simp only [Act.put, lA, lZ, lS]
      refine zR ?_;go_wp2;go_ret;exact ⟨xP (by simp [c3]), B3.out⟩
  · have tt : decide ((1 : Int) <= (u : Int)) = false := by simpa using (by omega : ¬ (1 : Int) <= (u : Int))
    refine zA (fun W => Own W w.heap.size 131 #[.int .i64 0, .int .i64 (kd : Int), .string t] /\ Own W w2.heap.size 133 #[.int .i64 (u : Int), .int .i64 (f : Int), .int .u64 (r 0 : Int), .int .u64 (r 1 : Int), .int .u64 (r 2 : Int), .int .u64 (r 3 : Int), .int .u64 (r 4 : Int), .int .u64 (r 5 : Int), .int .u64 (r 6 : Int), .int .u64 (r 7 : Int)]) (0 :: 1 :: 3 :: 4 :: 5 :: 6 :: 7 :: 8 :: 9 :: 10 :: 11 :: 12 :: 13 :: 14 :: 15 :: 16 :: 17 :: 18 :: 19 :: 20 :: 21 :: 22 :: []) (0 :: 1 :: 6 :: 11 :: 17 :: 19 :: []) (0 :: 1 :: 2 :: 3 :: 4 :: 5 :: 6 :: 7 :: 8 :: 9 :: 10 :: 11 :: 12 :: 13 :: 14 :: 15 :: 16 :: 17 :: 18 :: 19 :: 20 :: 21 :: 22 :: []) (by kernel_rfl) (by kernel_rfl) rfl (by kernel_rfl) rfl (⟨OO.out.drawn, OH.out.drawn⟩) (by simp only [zU, List.filterMap_cons, List.filterMap_nil, List.getElem?_cons_zero, List.getElem?_cons_succ, Option.map_some]; exact rfl) ?_;iterate 2
      refine zC (v := ?_) rfl rfl (fun W hS => ?_) ?_;rotate_left
      · first
          | (conv => lhs; simp [go_sem, HQh.out, tt]
             first | done | exact rfl)
          | (have hS := hS rfl
             obtain ⟨q1, q2⟩ := hS;obtain ⟨q1, q3, q4⟩ := Own.at_ q1;obtain ⟨q2, q5, q6⟩ := Own.at_ q2;conv => lhs; simp [go_sem, *, HQh.out, tt]
             first | done | exact rfl)
      simp only [Act.put, lA, lZ, lS]
    refine zQ rfl rfl fun K hK => ?_
    go_wp2_with (go_at_call 73; refine (HS.out _).mono ?_; rintro e w3 ⟨rfl, hb3⟩)
    have O3 := Own.keep OO.out.drawn hb3;have H3 := Own.keep OH.out.drawn hb3;have B3 := Lh (then_ BB.out.drew hb3 BB.out.drew.size);refine hK _ _ ⟨O3, H3⟩ ?_;clear hK K hb3 O3 H3;iterate 7
      refine zC (v := ?_) rfl rfl (fun W hS => ?_) ?_;rotate_left
      · first
          | (conv => lhs; simp [go_sem, HQh.out, tt]
             first | done | exact rfl)
          | (have hS := hS rfl
             obtain ⟨q1, q2⟩ := hS;obtain ⟨q1, q3, q4⟩ := Own.at_ q1;obtain ⟨q2, q5, q6⟩ := Own.at_ q2;conv => lhs; simp [go_sem, *, HQh.out, tt]
             first | done | exact rfl)
      simp only [Act.put, lA, lZ, lS]
    refine zO rfl rfl ?_;simp only [Act.put, lA, lZ, lS];refine zO rfl rfl ?_;simp only [Act.put, lA, lZ, lS];refine zO rfl rfl ?_;simp only [Act.put, lA, lZ, lS];refine zO rfl rfl ?_;simp only [Act.put, lA, lZ, lS];iterate 2
      refine zC (v := ?_) rfl rfl (fun W hS => ?_) ?_;rotate_left
      · first
          | (conv => lhs; simp [go_sem, HQh.out, tt]
             first | done | exact rfl)
          | (have hS := hS rfl
             obtain ⟨q1, q2⟩ := hS;obtain ⟨q1, q3, q4⟩ := Own.at_ q1;obtain ⟨q2, q5, q6⟩ := Own.at_ q2;conv => lhs; simp [go_sem, *, HQh.out, tt]
             first | done | exact rfl)
      simp only [Act.put, lA, lZ, lS]
    refine zO rfl rfl ?_;simp only [Act.put, lA, lZ, lS];refine zO rfl rfl ?_;simp only [Act.put, lA, lZ, lS];refine zO rfl rfl ?_;simp only [Act.put, lA, lZ, lS];refine zO rfl rfl ?_;simp only [Act.put, lA, lZ, lS];refine zO rfl rfl ?_;simp only [Act.put, lA, lZ, lS];iterate 2
      refine zC (v := ?_) rfl rfl (fun W hS => ?_) ?_;rotate_left
      · first
          | (conv => lhs; simp [go_sem, HQh.out, tt]
             first | done | exact rfl)
          | (have hS := hS rfl
             obtain ⟨q1, q2⟩ := hS;obtain ⟨q1, q3, q4⟩ := Own.at_ q1;obtain ⟨q2, q5, q6⟩ := Own.at_ q2;conv => lhs; simp [go_sem, *, HQh.out, tt]
             first | done | exact rfl)
      simp only [Act.put, lA, lZ, lS]
    refine zR ?_;go_wp2;go_ret;exact ⟨xP (by simp [c2]), B3.out⟩
def nxt (used : Nat) (x : Pag) : Option Nat := if zT x.2 0 4 < used /\ x = (255, yY (zT x.2 0 4)) then some (zT x.2 0 4) else none
set_option maxRecDepth 10000 in
theorem zEn (no used : Nat) (x : Pag) (w : World) (hx : x.2.size = 496) : Calls Tryz.prog 173 #[shV no x, .int .i64 (used : Int)] w fun e w' =>
   e = .returned (.tuple #[.int .i64 (((nxt used x).getD 0 : Nat) : Int), .bool (nxt used x).isSome]) /\ Below w.heap.size w w' := by
 have hg : zT x.2 0 4 < 4294967296 := vW x.2 0 4;have HG := Lh (fun w => show Calls Tryz.prog 160 #[.string x.2, .int .i64 0, .int .i64 4] w fun e w' => e = .returned (.tuple #[.int .u64 (zT x.2 0 4 : Nat), .bool true]) /\ w = w' from jE x.2 0 4 w (by omega) (by omega) (by omega));have HF := Lh (fun w => zAw no (zT x.2 0 4) w hg);have HQ := fun w => zDs (no : Int) (x.1 : Int) no 255 x.2 (yY (zT x.2 0 4)) w
 have HN := Lh (show nxt used x = if zT x.2 0 4 < used /\ x = (255, yY (zT x.2 0 4)) then some (zT x.2 0 4) else none from rfl);have e1 : decide ((no : Int) = no /\ (x.1 : Int) = 255 /\ x.2 = yY (zT x.2 0 4)) = decide (x = (255, yY (zT x.2 0 4))) := by
   congr 1
   simp only [true_and];exact propext ⟨fun ⟨a, b⟩ => Prod.ext (by simp only; omega) b, fun h => ⟨by have := congrArg Prod.fst h; simp only at this; omega, congrArg Prod.snd h⟩⟩
 rw [e1] at HQ;clear e1;obtain ⟨b1, hb1⟩ : ∃ b1, b1 = decide (x = (255, yY (zT x.2 0 4))) := ⟨_, rfl⟩
 have hb2 : (x = (255, yY (zT x.2 0 4))) ↔ b1 = true := by rw [hb1]; simp
 simp only [hb2] at HN;rw [<- hb1] at HQ;rw [HN.out];clear hb1 hb2 HN;obtain ⟨kd, t⟩ := x;unfold shV at HF ⊢;simp only at *;obtain ⟨FR, hFR⟩ : ∃ FR, FR = yY (zT t 0 4) := ⟨_, rfl⟩
 obtain ⟨n, hn⟩ : ∃ n, n = zT t 0 4 := ⟨_, rfl⟩
 rw [<- hFR] at HQ HF;rw [<- hn] at HG HF hg ⊢;clear hFR hn hx;have w1 : IntKind.i64.wrap (n : Int) = n := by rw [IntKind.wrap_i64]; omega
 have HQh := Lh HQ;clear HQ hg;go_enter Tryz.func173, Tryz.ntmps173;go_upto_region 3 with (go_at_call 160; refine (HG.out _).mono ?_; rintro e w2 ⟨rfl, rfl⟩)
 have O := Own.made w 131 #[.int .i64 (no : Int), .int .i64 (kd : Int), .string t];have B0 := zG w 131 #[.int .i64 (no : Int), .int .i64 (kd : Int), .string t];go_name_world W0 hW0;rw [hW0] at O B0;clear hW0;by_cases c1 : n < used
 · have d1 : ¬ (used <= n) := by omega
   have d2 : decide ((used : Int) <= (n : Int)) = false := by simpa using c1
   cases b1 with
   | true =>
     have tt := And.intro d1 d2;refine zA (fun W => Own W w.heap.size 131 #[.int .i64 (no : Int), .int .i64 (kd : Int), .string t]) (0 :: 1 :: 2 :: 3 :: 4 :: 5 :: 6 :: 7 :: 9 :: 10 :: []) (4 :: 6 :: []) (0 :: 1 :: 2 :: 3 :: 4 :: 5 :: 6 :: 7 :: 8 :: 9 :: 10 :: []) (by kernel_rfl) (by kernel_rfl) rfl (by kernel_rfl) rfl (O.drawn) (by simp only [zU, List.filterMap_cons, List.filterMap_nil, List.getElem?_cons_zero, List.getElem?_cons_succ, Option.map_some]; exact rfl) ?_;iterate 8
       refine zC (v := ?_) rfl rfl (fun W hS => ?_) ?_;rotate_left
       · first
           | (conv => lhs; simp [go_sem, HQh.out, tt]
              first | done | exact rfl)
           | (have hS := hS rfl
              obtain ⟨q1, q3, q4⟩ := Own.at_ hS;conv => lhs; simp [go_sem, *, HQh.out, tt]
              first | done | exact rfl)
       simp only [Act.put, lA, lZ, lS]
     refine zQ rfl rfl fun K hK => ?_
     go_wp2_with (go_at_call 89; refine (HF.out _).mono ?_; rintro e w3 ⟨rfl, hb3⟩)
     have O3 := Own.keep O.drawn hb3;have B3 := Lh (then_ B0.drew hb3 B0.drew.size);refine hK _ _ O3 ?_;clear hK K hb3 O3;iterate 2
       refine zC (v := ?_) rfl rfl (fun W hS => ?_) ?_;rotate_left
       · first
           | (conv => lhs; simp [go_sem, HQh.out, tt]
              first | done | exact rfl)
           | (have hS := hS rfl
              obtain ⟨q1, q3, q4⟩ := Own.at_ hS;conv => lhs; simp [go_sem, *, HQh.out, tt]
              first | done | exact rfl)
       simp only [Act.put, lA, lZ, lS]
     refine zR ?_;go_wp2;go_ret2;simp [c1];exact B3.out
   | false =>
     have tt := And.intro d1 d2;refine zA (fun W => Own W w.heap.size 131 #[.int .i64 (no : Int), .int .i64 (kd : Int), .string t]) (0 :: 1 :: 2 :: 3 :: 4 :: 5 :: 6 :: 7 :: 9 :: 10 :: []) (4 :: 6 :: []) (0 :: 1 :: 2 :: 3 :: 4 :: 5 :: 6 :: 7 :: 8 :: 9 :: 10 :: []) (by kernel_rfl) (by kernel_rfl) rfl (by kernel_rfl) rfl (O.drawn) (by simp only [zU, List.filterMap_cons, List.filterMap_nil, List.getElem?_cons_zero, List.getElem?_cons_succ, Option.map_some]; exact rfl) ?_;iterate 8
       refine zC (v := ?_) rfl rfl (fun W hS => ?_) ?_;rotate_left
       · first
           | (conv => lhs; simp [go_sem, HQh.out, tt]
              first | done | exact rfl)
           | (have hS := hS rfl
              obtain ⟨q1, q3, q4⟩ := Own.at_ hS;conv => lhs; simp [go_sem, *, HQh.out, tt]
              first | done | exact rfl)
       simp only [Act.put, lA, lZ, lS]
     refine zQ rfl rfl fun K hK => ?_
     go_wp2_with (go_at_call 89; refine (HF.out _).mono ?_; rintro e w3 ⟨rfl, hb3⟩)
     have O3 := Own.keep O.drawn hb3;have B3 := Lh (then_ B0.drew hb3 B0.drew.size);refine hK _ _ O3 ?_;clear hK K hb3 O3;iterate 2
       refine zC (v := ?_) rfl rfl (fun W hS => ?_) ?_;rotate_left
       · first
           | (conv => lhs; simp [go_sem, HQh.out, tt]
              first | done | exact rfl)
           | (have hS := hS rfl
              obtain ⟨q1, q3, q4⟩ := Own.at_ hS;conv => lhs; simp [go_sem, *, HQh.out, tt]
              first | done | exact rfl)
       simp only [Act.put, lA, lZ, lS]
     refine zR ?_;go_wp2
     · go_ret2;rename_i h
       exact absurd h.2 (by simp)
     · go_ret2;exact ⟨rfl, B3.out⟩
 · have d1 : used <= n := by omega
   have d2 : decide ((used : Int) <= (n : Int)) = true := by simpa using d1
   have tt := And.intro d1 d2;refine zA (fun W => Own W w.heap.size 131 #[.int .i64 (no : Int), .int .i64 (kd : Int), .string t]) (0 :: 1 :: 2 :: 3 :: 4 :: 5 :: 6 :: 7 :: 9 :: 10 :: []) (4 :: 6 :: []) (0 :: 1 :: 2 :: 3 :: 4 :: 5 :: 6 :: 7 :: 8 :: 9 :: 10 :: []) (by kernel_rfl) (by kernel_rfl) rfl (by kernel_rfl) rfl (O.drawn) (by simp only [zU, List.filterMap_cons, List.filterMap_nil, List.getElem?_cons_zero, List.getElem?_cons_succ, Option.map_some]; exact rfl) ?_;iterate 4
     refine zC (v := ?_) rfl rfl (fun W hS => ?_) ?_;rotate_left
     · first
         | (conv => lhs; simp [go_sem, HQh.out, tt]
            first | done | exact rfl)
         | (have hS := hS rfl
            obtain ⟨q1, q3, q4⟩ := Own.at_ hS;conv => lhs; simp [go_sem, *, HQh.out, tt]
            first | done | exact rfl)
     simp only [Act.put, lA, lZ, lS]
   refine zO rfl rfl ?_;simp only [Act.put, lA, lZ, lS];refine zO rfl rfl ?_;simp only [Act.put, lA, lZ, lS];refine zO rfl rfl ?_;simp only [Act.put, lA, lZ, lS];refine zO rfl rfl ?_;simp only [Act.put, lA, lZ, lS];refine zQ rfl rfl fun K hK => ?_
   go_wp2;refine hK _ _ O.drawn ?_;clear hK K;refine zO rfl rfl ?_;simp only [Act.put, lA, lZ, lS];iterate 1
     refine zC (v := ?_) rfl rfl (fun W hS => ?_) ?_;rotate_left
     · first
         | (conv => lhs; simp [go_sem, HQh.out, tt]
            first | done | exact rfl)
         | (have hS := hS rfl
            obtain ⟨q1, q3, q4⟩ := Own.at_ hS;conv => lhs; simp [go_sem, *, HQh.out, tt]
            first | done | exact rfl)
     simp only [Act.put, lA, lZ, lS]
   refine zR ?_;go_wp2;go_ret2;simp [c1];exact B0.drew
end Go.Proofs.YthijgebmoadgkaaGreatDoor
