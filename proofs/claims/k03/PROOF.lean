import PyProof.Rows.All
import Wide.All
import OpenK.AllK
import Wide.FinOn
import HandS.ForMost
import HandS.OwnEq
import HandS.IsInst
import HandS.Codes
import HandS.Wide
import HandS.Replace
import HandS.NoneIn
import HandS.Flow
import HandS.Style
import KE.GoesZip
import KE.GoesMore
import KE.GoesEnum
import HandS.Walk
import HandS.StrMore
import PySem.Challenge.RW_allrows_k03_changes_done_one_behind_anot
set_option Elab.async false
set_option linter.all false
set_option maxRecDepth 100000
namespace LX
open PySem PySem.Spec PyProof.Rows L2 C8 SX
section
variable {X : Cx}
theorem call_list_str (hc : X.calm = true) : CallR X (.type "list") (fun (xs : List V) (H : Hp) (Q : VK) => ∃ l : List Nat, xs = [V.str (S l)] ∧ l.length ≤ sizeLine ∧ ∀ p, H p = none → Q (.ref p) (upd H p (.lst (l.map fun c => V.str (S [c]))))) := by
  intro pins s σ H xs us Q I r h
  obtain ⟨l, rfl, hl, q⟩ := h
  obtain ⟨u, rfl, ru⟩ := vals1 r
  obtain ⟨t, rfl⟩ := ru
  refine PySem.call_list_str (I.ok.hd hc) (S l) t (fun h' tk acc' c' hk hS hacc => ?_) (by simpa [S] using hl)
  have hv : Vals (l.map fun c => V.str (S [c])) acc'.toList := by
    obtain ⟨hsz, hit⟩ := hacc
    have hsz' : acc'.toList.length = l.length := by simpa using hsz
    have gen : ∀ (m : List Nat) (as : List Value), as.length = m.length → (∀ (j : Nat) (v : Value), as[j]? = some v → ∃ (c : Nat) (u : Tok), m[j]? = some c ∧ v = Value.str ⟨#[c]⟩ u) → Vals (m.map fun c => V.str (S [c])) as := by
      intro m
      induction m with
      | nil => intro as ha _; cases as with
        | nil => exact .nil
        | cons a as => cases ha
      | cons c m ih => intro as ha hh; cases as with
        | nil => cases ha
        | cons a as =>
          obtain ⟨c', u, e1, e2⟩ := hh 0 a rfl
          have : c = c' := Option.some.inj e1
          subst this
          exact .cons ⟨u, e2⟩ (ih as (Nat.succ.inj ha) fun j v e => hh (j + 1) v e)
    refine gen l acc'.toList hsz' fun j v e => ?_
    obtain ⟨c, u, e1, e2⟩ := hit j v (by simpa using e)
    exact ⟨c, u, by simpa [S] using e1, e2⟩
  refine ⟨.ref _, _, I.laid (t' := tk) (o := .lst (l.map fun c => V.str (S [c]))) hk (Nat.le_refl _) ⟨by simpa using hl, acc'.toList, c', hv, by simpa using hS⟩, rfl, q _ (I.hok.fresh (Nat.le_refl _))⟩
theorem op_mul_si : OpR X (binaryOp .Mult) (fun x y H Q => ∃ (z : Str) (k : Int), x = .str z ∧ y = .int k ∧ (k = 0 ∨ k = 1) ∧ Q (.str (if k = 0 then S [] else z)) H) := by
  intro pins s σ H x y v u Q I rx ry h
  obtain ⟨z, k, rfl, rfl, hk, q⟩ := h
  obtain ⟨t, rfl⟩ := rx
  obtain ⟨t', rfl⟩ := ry
  rcases hk with rfl | rfl
  · exact PySem.P.mul_str_none (by decide) (by decide) ⟨.str (S []), H, I.tok _, ⟨_, rfl⟩, q⟩
  · refine PySem.P.mul_str (by decide) (fun _ h => by simp at h) (fun _ h => by simp at h) ?_
    rw [if_neg (by decide), if_pos (by simp)]
    exact ⟨.str z, H, I, ⟨t, rfl⟩, q⟩
def tRevS (te ts : TE) : TE := fun σ H Q => te σ H fun x H1 => ts σ H1 fun y H2 => ∃ i, y = .int i ∧ (some i = some (-1) ∧ ∃ l : List Nat, x = .str (S l) ∧ l.length ≤ sizeLine ∧ Q (.str (S l.reverse)) H2)
theorem rev_indices (z : Str) : (Builtin.Str.strSliceIndices none none (-1) z.length).filterMap (z.cps[·]?) = z.cps.toList.reverse := by
  have e : Builtin.Str.strSliceIndices none none (-1) z.length = (List.range z.length).reverse := by
    show sliceRange ((z.length : Int) - 1) (-1) (-1) = _
    rw [PySem.W.krv_sliceRange]
    exact PySem.W.krv_range _
  rw [e, List.filterMap_reverse]
  exact congrArg List.reverse (PySem.W.krv_all z.cps)
theorem pe_revS {e st : Expr} {te ts : TE} {p3 pos : Pos} (he : PE X e te) (hs : PE X st ts) : PE X (.Subscript e (.Slice none none (some st) p3) pos) (tRevS te ts) := by
  refine ⟨fun pins s σ H Q I h => ?_⟩
  refine Subscript_ (thn (he.run pins s σ H _ I h) fun v s1 ⟨x, H1, I1, r1, q1⟩ => ?_)
  have hst : PO X (some st) (tPart ts) := po_some hs
  refine wpAny_Slice (thn (po_none.run pins s1 σ H1 (fun o H2 => o = none ∧ H2 = H1) I1 ⟨rfl, rfl⟩) fun vl s2 ⟨l, H2, I2, pl, el, e2⟩ => ?_)
  subst el e2
  refine thn (po_none.run pins s2 σ H2 (fun o H3 => o = none ∧ H3 = H2) I2 ⟨rfl, rfl⟩) fun vu s3 ⟨u, H3, I3, pu, eu, e3⟩ => ?_
  subst eu e3
  refine thn (hst.run pins s3 σ H3 (fun o H4 => o = some (-1) ∧ ∃ l : List Nat, x = .str (S l) ∧ l.length ≤ sizeLine ∧ Q (.str (S l.reverse)) H4) I3 q1) fun vs s4 ⟨o, H4, I4, ps, eo, l, ex, hl, q⟩ => ?_
  subst eo ex
  obtain ⟨t, rfl⟩ := r1
  have I5 : Inv X pins σ H4 { s4 with heap := s4.heap.push { cls := .type "slice", data := .fields #[vl, vu, vs] } } := I4.kept (t' := s4.toks) fun b ob q => Heap.get?_push_of_some _ q
  show wpAny (model X.prog X.w) X.A (subscriptTail e (.Slice none none (some st) p3) (.str (S l) t) (.ref s4.heap.objs.size)) (EP X pins σ Q) X.xe { s4 with heap := s4.heap.push { cls := .type "slice", data := .fields #[vl, vu, vs] } }
  obtain ⟨l', el, el2⟩ := IsPart.raw pl
  obtain ⟨u', eu, eu2⟩ := IsPart.raw pu
  obtain ⟨s', es, es2⟩ := IsPart.raw ps
  refine tail_any (ops := [.ref s4.heap.objs.size, .str (S l) t]) (typeIs_str _ _ _) F.slot_str_getitem.lookup ?_ (by with_unfolding_all rfl)
  refine wpAny_getItem_str_slice (l := l') (u := u') (st := s') ?_ (by rw [es2]; rfl) ?_
  · rw [el, eu, es]
    exact Heap.IsSliceOf.new ..
  · unfold sliceMade slicePicked
    rw [el2, eu2, es2]
    show Made.post (if ((-1 : Int) == 1 && (Builtin.Str.strSliceIndices none none (-1) (S l).length).length == (S l).length) = true then Made.val (.str (S l) t)
      else Made.str ⟨((Builtin.Str.strSliceIndices none none (-1) (S l).length).filterMap ((S l).cps[·]?)).toArray⟩) (EP X pins σ Q) _
    rw [if_neg (by simp), rev_indices]
    exact ⟨by simpa [Str.length] using hl, .str _, H4, I5.tok _, ⟨_, rfl⟩, q⟩
end
end LX
namespace LX
open PySem PySem.Spec PyProof.Rows L2 C8 SX
inductive Sr where
  | txt (x : Str) | lst (a : Addr) | tup (a : Addr)
def Sr.fp : Sr → List Addr
  | .txt _ => [] | .lst a => [a] | .tup a => [a]
def Sr.has (K : PySem.W.Frag) : Sr → Nat → Hp → Prop
  | .txt x, i, _ => i < x.cps.size
  | .lst a, i, H => ∃ xs, SqL K H a xs ∧ i < xs.length
  | .tup a, i, H => ∃ xs, SqT K H a xs ∧ i < xs.length
def Sr.val (K : PySem.W.Frag) : Sr → Nat → Hp → V → Prop
  | .txt x, i, _, v => ∃ c, x.cps[i]? = some c ∧ v = .str ⟨#[c]⟩
  | .lst a, i, H, v => ∀ xs, SqL K H a xs → xs[i]? = some v
  | .tup a, i, H, v => ∀ xs, SqT K H a xs → xs[i]? = some v
def Sr.upto (K : PySem.W.Frag) : Sr → Nat → Hp → Prop
  | .txt x, i, _ => i ≤ x.cps.size
  | .lst a, i, H => ∃ xs, SqL K H a xs ∧ i ≤ xs.length
  | .tup a, i, H => ∃ xs, SqT K H a xs ∧ i ≤ xs.length
def Sr.ends (K : PySem.W.Frag) : Sr → Nat → Hp → Prop
  | .txt x, i, _ => i = x.cps.size
  | .lst a, i, H => ∃ xs, SqL K H a xs ∧ i = xs.length
  | .tup a, i, H => ∃ xs, SqT K H a xs ∧ i = xs.length
def Sr.tn : Sr → Addr → Nat → Heap → Prop
  | .txt x, it, i, h => ∃ t, h.IsStrIter it (strIterType x) x t i
  | .lst a, it, i, h => h.IsListIter it a i
  | .tup a, it, i, h => h.IsTupleIter it a i
theorem Sr.tn_obj : ∀ {S : Sr} {it : Addr} {i : Nat} {h : Heap}, S.tn it i h → ∃ o, h.get? it = some o ∧ ∀ v, o.data ≠ .cell v
  | .txt _, _, _, _, ⟨_, o, e, _, d⟩ => ⟨o, e, fun v q => by rw [d] at q; cases q⟩
  | .lst _, _, _, _, h => let ⟨o, e, _, d⟩ := h; ⟨o, e, fun v q => by rw [d] at q; cases q⟩
  | .tup _, _, _, _, ⟨o, e, _, d⟩ => ⟨o, e, fun v q => by rw [d] at q; cases q⟩
theorem Sr.tn_keep : ∀ {S : Sr} {it : Addr} {i : Nat} {h h' : Heap}, S.tn it i h → (∀ o, h.get? it = some o → h'.get? it = some o) → S.tn it i h'
  | .txt _, _, _, _, _, ⟨t, o, e, r⟩, k => ⟨t, o, k o e, r⟩
  | .lst _, _, _, _, _, h, k => h.at k
  | .tup _, _, _, _, _, h, k => h.at k
section
variable {X : Cx} {pins : List (Addr × Obj)} {σ : L2.St} {H : Hp} {s : Shared}
structure DrawsAt (X : Cx) (S : Sr) (H : Hp) (s : Shared) (it : Addr) (i : Nat) (n : Nat) : Prop where
  ex : ∃ (Pp : Nat → Value → Prop) (St : Nat → Heap → Prop), (∀ A : Around, A.handled = none → Draws X.prog X.w A it (it :: S.fp) n Pp St) ∧ St i s.heap ∧
    (∀ u, Pp i u → ∃ v, S.val X.K i H v ∧ RelV v u) ∧ ∀ j h', St j h' → S.tn it j h'
theorem Sr.draws (S : Sr) {it : Addr} {i : Nat} (I : Inv X pins σ H s) (hit : ∀ a ∈ S.fp, a ≠ it) (st : S.tn it i s.heap) (hu : S.upto X.K i H) : ∃ n, DrawsAt X S H s it i n ∧ i ≤ n ∧ (S.has X.K i H → i < n) ∧ (S.ends X.K i H → i = n) := by
  cases S with
  | txt x =>
    obtain ⟨t, st⟩ := st
    refine ⟨x.cps.size, ⟨_, _, fun A hh => Draws.text hh it x t, st, fun u ⟨c, u', e, eu⟩ => ?_, fun j h' q => ⟨t, q⟩⟩, hu, fun h => h, fun h => h⟩
    exact ⟨.str ⟨#[c]⟩, ⟨c, e, rfl⟩, ⟨u', eu⟩⟩
  | lst a =>
    obtain ⟨xs, hx, hu⟩ := hu
    obtain ⟨its, rv, p, _⟩ := I.list hx
    have hl := rv.length
    refine ⟨its.toArray.size, ⟨_, _, fun A hh => Draws.list hh it a (hit a (List.mem_singleton.mpr rfl)) its.toArray, ⟨st, p.isList⟩, fun u hq => ?_, fun j h' q => q.1⟩, by simp; omega, fun ⟨ys, hy, h⟩ => ?_, fun ⟨ys, hy, h⟩ => ?_⟩
    · have hq' : its[i]? = some u := by simpa using hq
      have hlt : i < xs.length := by rw [hl]; exact (List.getElem?_eq_some_iff.mp hq').1
      obtain ⟨u', e, r⟩ := rv.get (List.getElem?_eq_getElem hlt)
      rw [hq'] at e
      rw [Option.some.inj e]
      exact ⟨xs[i], fun zs hz => by rw [I.list_inj hz hx]; exact List.getElem?_eq_getElem hlt, r⟩
    · rw [I.list_inj hy hx] at h; simp; omega
    · rw [I.list_inj hy hx] at h; simp; omega
  | tup a =>
    obtain ⟨xs, hx, hu⟩ := hu
    obtain ⟨its, rv, p, _⟩ := I.tuple hx
    have hl := rv.length
    refine ⟨its.toArray.size, ⟨_, _, fun A hh => Draws.tuple hh it a (hit a (List.mem_singleton.mpr rfl)) its.toArray, ⟨st, p⟩, fun u hq => ?_, fun j h' q => q.1⟩, by simp; omega, fun ⟨ys, hy, h⟩ => ?_, fun ⟨ys, hy, h⟩ => ?_⟩
    · have hq' : its[i]? = some u := by simpa using hq
      have hlt : i < xs.length := by rw [hl]; exact (List.getElem?_eq_some_iff.mp hq').1
      obtain ⟨u', e, r⟩ := rv.get (List.getElem?_eq_getElem hlt)
      rw [hq'] at e
      rw [Option.some.inj e]
      exact ⟨xs[i], fun zs hz => by rw [I.tuple_inj hz hx]; exact List.getElem?_eq_getElem hlt, r⟩
    · rw [I.tuple_inj hy hx] at h; simp; omega
    · rw [I.tuple_inj hy hx] at h; simp; omega
end
def ItzX (K : PySem.W.Frag) (S1 S2 : Sr) : It :=
  ⟨fun i H => S1.has K i H ∧ S2.has K i H,
    fun i H v H' => ∃ T x y, v = .ref T ∧ H T = none ∧ H' = upd H T (.tup [x, y]) ∧ S1.val K i H x ∧ S2.val K i H y,
    fun i H => S1.upto K i H ∧ S2.upto K i H ∧ (S1.ends K i H ∨ S2.ends K i H)⟩
theorem Sr.has_upto {K : PySem.W.Frag} : ∀ {S : Sr} {i : Nat} {H : Hp}, S.has K i H → S.upto K i H
  | .txt _, _, _, h => Nat.le_of_lt h
  | .lst _, _, _, ⟨xs, hx, h⟩ => ⟨xs, hx, Nat.le_of_lt h⟩
  | .tup _, _, _, ⟨xs, hx, h⟩ => ⟨xs, hx, Nat.le_of_lt h⟩
theorem turn_zipX {P : Program} {w : World} {K : PySem.W.Frag} {elts : List Expr} {kk : Nat} {tpos : Pos} {z TI TO i1 i2 : Addr} (S1 S2 : Sr) (D : ZipSep2 z TI TO i1 i2 (i1 :: S1.fp) (i2 :: S2.fp)) (n1 : ∀ a ∈ S1.fp, a ≠ i1) (n2 : ∀ a ∈ S2.fp, a ≠ i2) :
    Turn P w K (.Tuple elts kk tpos) (ItzX K S1 S2) [z, TI, TO, i1, i2] z (fun i h => IsZip h z TI TO .none ∧ IsTupOf2 h TI (.ref i1) (.ref i2) ∧ (∃ x y, IsTupOf2 h TO x y) ∧ S1.tn i1 i h ∧ S2.tn i2 i h) where
  mem := by simp
  obj := fun i h st c hc => by
    obtain ⟨hz, hTI, ⟨x, y, hTO⟩, h1, h2⟩ := st
    have e' : c = z ∨ c = TI ∨ c = TO ∨ c = i1 ∨ c = i2 := by simpa using hc
    rcases e' with q | q | q | q | q
    · rw [q]; exact ⟨_, hz, fun v q => nomatch q⟩
    · rw [q]; exact ⟨_, hTI, fun v q => nomatch q⟩
    · rw [q]; exact ⟨_, hTO, fun v q => nomatch q⟩
    · rw [q]; exact Sr.tn_obj h1
    · rw [q]; exact Sr.tn_obj h2
  keep := fun i h h' st k => by
    obtain ⟨hz, hTI, ⟨x, y, hTO⟩, h1, h2⟩ := st
    exact ⟨k z (by simp) _ hz, k TI (by simp) _ hTI, ⟨x, y, k TO (by simp) _ hTO⟩, Sr.tn_keep h1 fun o q => k i1 (by simp) o q, Sr.tn_keep h2 fun o q => k i2 (by simp) o q⟩
  item := by
    intro X hP hw hK hc i pins s σ H E I hf st hg
    subst hP hw hK
    obtain ⟨hz, hTI, ⟨x0, y0, hTO⟩, h1, h2⟩ := st
    obtain ⟨g1, g2⟩ := hg
    obtain ⟨m1, ⟨P1, St1, D1, st1, v1, t1⟩, _, lt1, _⟩ := S1.draws I n1 h1 (Sr.has_upto g1)
    obtain ⟨m2, ⟨P2, St2, D2, st2, v2, t2⟩, _, lt2, _⟩ := S2.draws I n2 h2 (Sr.has_upto g2)
    have hzl : z < s.heap.objs.size := Heap.lt_size hz
    refine wpAny_pyNext_zipD2_item D (D1 _ (I.ok.hd hc)) (D2 _ (I.ok.hd hc)) hz hTI hTO st1 st2 (lt1 g1) (lt2 g2) fun u1 u2 h' tk p1 p2 z' TO' st1' st2' hT hsz hk => ?_
    obtain ⟨x, hx, rx⟩ := v1 u1 p1
    obtain ⟨y, hy, ry⟩ := v2 u2 p2
    refine ⟨_, rfl, wpAny_letOwnedTupleGo_zip (s := { s with heap := h', toks := tk }) z' fun h'' z'' sb => ?_⟩
    have hT2 : h''.get? s.heap.objs.size = some { cls := .type "tuple", data := .seq #[u1, u2] } := (sb.2 _ (Nat.ne_of_gt hzl)).trans hT
    have new : ObjOk X.prog X.w (upd H s.heap.objs.size (.tup [x, y])) h'' s.heap.objs.size (.tup [x, y]) :=
      ⟨by show 2 ≤ sizeLine; decide, [u1, u2], .cons rx (.cons ry .nil), ⟨_, hT2, rfl, _, rfl⟩⟩
    have I1 : Inv X pins σ (upd H s.heap.objs.size (.tup [x, y])) { s with heap := h'', toks := tk } :=
      I.turnedNew (t' := tk) (ch := [z, TI, TO, i1, i2]) (fun c o hb q => (sb.2 c (fun q' => hb (by simp [q']))).trans (hk c o (fun q' => hb (by simp [q'])) (fun q' => hb (by simp [q'])) (fun q' => hb (by simp [q'])) (fun q' => hb (by simp [q'])) q)) hf (Nat.le_refl _) new
    refine ⟨.ref s.heap.objs.size, _, I1, rfl, ⟨_, x, y, rfl, I.hok.fresh (Nat.le_refl _), rfl, hx, hy⟩, ⟨z'', ?_, ⟨u1, u2, ?_⟩, ?_, ?_⟩, fun c hcm => ?_⟩
    · exact (sb.2 _ D.TIz).trans (hk _ _ D.TIz D.TITO D.TIi1 D.TIi2 hTI)
    · exact (sb.2 _ D.TOz).trans TO'
    · exact Sr.tn_keep (t1 _ _ st1') fun o q => (sb.2 _ D.zi1.symm).trans q
    · exact Sr.tn_keep (t2 _ _ st2') fun o q => (sb.2 _ D.zi2.symm).trans q
    · have hlt : c < s.heap.objs.size := by
        have e' : c = z ∨ c = TI ∨ c = TO ∨ c = i1 ∨ c = i2 := by simpa using hcm
        rcases e' with q | q | q | q | q
        · rw [q]; exact hzl
        · rw [q]; exact Heap.lt_size hTI
        · rw [q]; exact Heap.lt_size hTO
        · rw [q]; obtain ⟨_, e1, _⟩ := Sr.tn_obj h1; exact Heap.lt_size e1
        · rw [q]; obtain ⟨_, e2, _⟩ := Sr.tn_obj h2; exact Heap.lt_size e2
      rw [upd_ne (Nat.ne_of_lt hlt)]
      exact (hf c hcm).1
  done := by
    intro X hP hw hK hc i pins s σ H E I hf st hg
    subst hP hw hK
    obtain ⟨hz, hTI, ⟨x0, y0, hTO⟩, h1, h2⟩ := st
    obtain ⟨g1, g2, ge⟩ := hg
    obtain ⟨m1, ⟨P1, St1, D1, st1, v1, t1⟩, le1, _, eq1⟩ := S1.draws I n1 h1 g1
    obtain ⟨m2, ⟨P2, St2, D2, st2, v2, t2⟩, le2, _, eq2⟩ := S2.draws I n2 h2 g2
    exact wpAny_pyNext_zipD2_end D (D1 _ (I.ok.hd hc)) (D2 _ (I.ok.hd hc)) hz hTI hTO st1 st2 le1 le2 (ge.elim (fun q => .inl (eq1 q)) fun q => .inr (eq2 q)) fun h' tk hk => ⟨rfl, I.turnedL (t' := tk) (ch := [z, TI, TO, i1, i2]) (fun c o hb q =>
      hk c o (fun q' => hb (by simp [q'])) (fun q' => hb (by simp [q'])) (fun q' => hb (by simp [q'])) (fun q' => hb (by simp [q'])) q) hf⟩
  self := fun A i s Q E st h => wpAny_pyIter_zip st.1 h
def Sr.of : V → Sr → Prop
  | .str x, .txt y => x = y
  | .ref a, .lst b => a = b
  | .ref a, .tup b => a = b
  | _, _ => False
def Sr.there (K : PySem.W.Frag) (H : Hp) : Sr → Prop
  | .txt _ => True
  | .lst a => ∃ xs, SqL K H a xs
  | .tup a => ∃ xs, SqT K H a xs
theorem Sr.begins {X : Cx} {pins : List (Addr × Obj)} {σ : L2.St} {H : Hp} {s : Shared} (I : Inv X pins σ H s) {v : V} {u : Value} (r : RelV v u) : ∀ {S : Sr}, S.of v → S.there X.K H → ∃ (o : Obj) (HH : Heap → Prop), Begins u o HH ∧ HH s.heap ∧ (∀ a ∈ S.fp, a < s.heap.objs.size) ∧ ∀ (h : Heap) (it : Addr), h.get? it = some o → S.tn it 0 h
  | .txt y, e, _ => by
    cases v with
    | str x =>
      have e' : x = y := e
      subst e'
      obtain ⟨t, rfl⟩ := r
      exact ⟨_, _, begins_text x t, trivial, (fun _ h => nomatch h), fun h it q => ⟨t, _, q, rfl, rfl⟩⟩
    | _ => exact e.elim
  | .lst b, e, ⟨xs, hx⟩ => by
    cases v with
    | ref a =>
      have e' : a = b := e
      subst e'
      cases r
      obtain ⟨its, rv, p, _⟩ := I.list hx
      refine ⟨_, _, begins_list a its.toArray, p.isList, fun c h => ?_, fun h it q => ⟨_, q, rfl, rfl⟩⟩
      rw [List.mem_singleton.mp h]; exact p.lt
    | _ => exact e.elim
  | .tup b, e, ⟨xs, hx⟩ => by
    cases v with
    | ref a =>
      have e' : a = b := e
      subst e'
      cases r
      obtain ⟨its, rv, p, _⟩ := I.tuple hx
      refine ⟨_, _, begins_tuple a its.toArray, p, fun c h => ?_, fun h it q => ⟨_, q, rfl, rfl⟩⟩
      rw [List.mem_singleton.mp h]; exact p.lt
    | _ => exact e.elim
def iZipX (K : PySem.W.Frag) (ta : TA) : TI := fun σ H R => ta σ H fun vs H1 => ∃ (x y : V) (S1 S2 : Sr), vs = [x, y] ∧ S1.of x ∧ S2.of y ∧ S1.there K H1 ∧ S2.there K H1 ∧ R (ItzX K S1 S2) H1
theorem pi_zipX {X : Cx} {e e2 : Expr} {ta : TA} {p pos tpos : Pos} {elts : List Expr} {kk : Nat} (hg : Gl X "zip") (hm : X.mg "zip" = none) (ha : PA X [e, e2] ta)
    (hs : starEach [e, e2] X.env = (false, eval e X.env) :: starEach [e2] X.env := by rfl) (hpl : (backTo pos (starEach [e2] X.env)).any (·.1) = false := by rfl) :
    PI X (.Tuple elts kk tpos) (.Call (.Name "zip" p) [e, e2] [] pos) (iZipX X.K ta) := by
  refine ⟨fun pins s σ H R I h => ?_⟩
  refine Call_ (ld_blt I hg hm PyProof.Rows.boot_zip (PyProof.Rows.callWith_type1 (thn (ha.run pos pins s σ H _ I h) fun us s1 ⟨vs, H1, I1, r1, q1⟩ => ?_) hs hpl))
  obtain ⟨x, y, S1, S2, ex, e1, e2, th1, th2, q⟩ := q1
  subst ex
  obtain ⟨u, u', rfl, r, r'⟩ := vals2 r1
  obtain ⟨o1, HH1, B1, b1, f1, t1⟩ := Sr.begins I1 r e1 th1
  obtain ⟨o2, HH2, B2, b2, f2, t2⟩ := Sr.begins I1 r' e2 th2
  have fresh5 : ∀ c, c ∈ [s1.heap.objs.size + 4, s1.heap.objs.size + 2, s1.heap.objs.size + 3, s1.heap.objs.size, s1.heap.objs.size + 1] → FpOk X pins H1 c := fun c hcm => by
    have e' : c = s1.heap.objs.size + 4 ∨ c = s1.heap.objs.size + 2 ∨ c = s1.heap.objs.size + 3 ∨ c = s1.heap.objs.size ∨ c = s1.heap.objs.size + 1 := by simpa using hcm
    have hle : s1.heap.objs.size ≤ c := by
      rcases e' with z | z | z | z | z
      · rw [z]; exact Nat.le_add_right _ _
      · rw [z]; exact Nat.le_add_right _ _
      · rw [z]; exact Nat.le_add_right _ _
      · rw [z]; exact Nat.le_refl _
      · rw [z]; exact Nat.le_add_right _ _
    exact I1.fpOk hle (I1.hok.fresh hle)
  refine zip_begins2 B1 B2 b1 b2 fun h' hz hTI hTO h1 h2 hsz hk => wpAny_pyIter_zip hz ?_
  have I2 : Inv X pins σ H1 { s1 with heap := h' } := I1.kept (t' := s1.toks) hk
  exact ⟨s1.heap.objs.size + 4, [s1.heap.objs.size + 4, s1.heap.objs.size + 2, s1.heap.objs.size + 3, s1.heap.objs.size, s1.heap.objs.size + 1], _, _, H1, rfl, I2,
    turn_zipX S1 S2 (PySem.zip_sep2 f1 f2) (fun a ha => Nat.ne_of_lt (f1 a ha)) (fun a ha => Nat.ne_of_lt (Nat.lt_succ_of_lt (f2 a ha))), ⟨hz, hTI, ⟨_, _, hTO⟩, t1 _ _ h1, t2 _ _ h2⟩, fresh5, q⟩
end LX
namespace LX
open PySem PySem.Spec PyProof.Rows L2 C8 SX
section
variable {prog : Program} {w : World} {A : Around} {E : Value → Shared → Prop} {s : Shared} {K : PySem.W.Frag} {x y C L f : Addr} {h₀ : Heap} {m : Str → Option Value} {ox : Obj} {od : Option Obj}
theorem objNe_own (X : K.In s.heap) (I : PySem.W.InstAt s.heap x ox C od) (hs : PySem.W.findIn K (.ref C) "__eq__" = some (some (.ref f))) (hf : PySem.W.isFn K (.ref f) = true) (hu : A.units < cLine) {Q : Fin → Shared → Prop}
    (hcall : wpAny (model prog w) A (call (.ref f) [.ref x, .ref y]) (fun v s' => ∃ b, v = .bool b ∧ Q (.done (.ret (.bool (!b)))) s') E s) :
    wpAny (model prog w) A (Builtin.«object.__ne__» ⟨[.ref x, .ref y], []⟩) Q E s := by
  unfold Builtin.«object.__ne__»
  repeat (first
    | with_reducible refine wpAny_cRoomFor hu ?_
    | (refine wpAny_bind (m := callSpecialIfBound? (.ref x) (Str.ofString "__eq__") [.ref y])
        (PySem.W.ifBound_K X I hs hf (wpAny_mono hcall (fun r s' hr => by
          obtain ⟨b, rfl, hq⟩ := hr
          repeat (first | exact hq | exact wpAny_pure hq | exact wpAny_truthy_bool hq | (refine wpAny_bind (m := truthy (.bool _)) (wpAny_truthy_bool ?_)) | wp_step)) fun _ _ e => e)))
    | wp_step)
theorem ifBound_ne {M : Model} {args : List Value} {Q : Option Value → Shared → Prop} (X : K.In s.heap) (I : PySem.W.InstAt s.heap x ox C od) (hs : PySem.W.findIn K (.ref C) "__ne__" = some (some (.builtin "object.__ne__")))
    (h : wpAny M A (call (.builtin "object.__ne__") (.ref x :: args)) (fun v => Q (some v)) E s) : wpAny M A (callSpecialIfBound? (.ref x) "__ne__" args) Q E s := by
  simp only [callSpecialIfBound?, bindSpecialIfBound?]
  refine wpAny_holding (wpAny_bind (wpAny_bind (wpAny_bind (I.type.here ((PySem.W.looks_findIn X hs).here ?_)))))
  simp only [F.cmp_object.ne.bind]
  refine wpAny_bind (wpAny_askSetting (wpAny_ite ?_))
  have fin : wpAny M A (call (.builtin "object.__ne__") ([.ref x] ++ args) >>= fun v => pure (some v)) Q E s := wpAny_bind (wpAny_mono h (fun v s' h' => wpAny_pure h') fun _ _ h' => h')
  split
  · exact wpAny_bind (wpAny_pure (wpAny_pure fin))
  · exact wpAny_tryCatch (wpAny_bind (wpAny_pure (wpAny_pure fin)))
theorem check_ne {M : Model} {Q : Unit → Shared → Prop} (X : K.In s.heap) (I : PySem.W.InstAt s.heap x ox C od) (hm : PySem.W.mroIn K C (.type "object") = some true) (hq : Q () s) :
    wpAny M A (checkBuiltinCall "object.__ne__" ⟨[.ref x, .ref y], []⟩) Q E s := by
  have L0 := I.type (M := M)
  have L1 := PySem.W.looks_mroIn (M := M) X hm
  simp only [checkBuiltinCall, F.cmpKind_ne, F.cmpSplit_ne]
  have ha := F.cmpArgs_ne (.ref x) (.ref y)
  refine wpAny_bind ?_
  unfold isInstance
  repeat lk
  exact hq
theorem rcNe_own (hu : A.units + 1 < cLine) (FF : Fr h₀ L s.heap m) (X₀ : K.In h₀) (I : PySem.W.InstAt s.heap x ox C od) (hb : PySem.W.Looks (model prog w) s.heap (typeOf (.ref y)) (.ref C))
    (hs : PySem.W.findIn K (.ref C) "__eq__" = some (some (.ref f))) (hf : PySem.W.isFn K (.ref f) = true) (hn : PySem.W.findIn K (.ref C) "__ne__" = some (some (.builtin "object.__ne__"))) (hm : PySem.W.mroIn K C (.type "object") = some true)
    {Q : Value → Shared → Prop} (hcall : wpAny (model prog w) A.in1 (call (.ref f) [.ref x, .ref y]) (fun v s' => ∃ b, v = .bool b ∧ Q (.bool (!b)) s') E s) :
    wpAny (model prog w) A (richCompare .NotEq (.ref x) (.ref y)) Q E s := by
  have X := X₀.keeps FF.keep
  have one : wpAny (model prog w) A (tryCompare (.ref x) (cmpInfo .NotEq).2.1 (.ref y)) (fun r s' => ∃ v, r = some v ∧ Q v s') E s := by
    show wpAny (model prog w) A (tryCompare (.ref x) "__ne__" (.ref y)) (fun r s' => ∃ v, r = some v ∧ Q v s') E s
    unfold tryCompare
    refine wpAny_bind (ifBound_ne X I hn (wpAny_call (codeAny_call_builtin F.cmp_object.ne.plain F.cmpEntry_ne (check_ne X I hm (objNe_own (A := A.in1) X I hs hf (by show A.units + 1 < cLine; exact hu) (wpAny_mono hcall (fun v s' hv => ?_) fun _ _ e => e))))))
    obtain ⟨b, rfl, hq⟩ := hv
    first | exact ⟨b, rfl, wpAny_pure ⟨_, rfl, hq⟩⟩ | exact ⟨b, rfl, wpAny_pure (wpAny_pure ⟨_, rfl, hq⟩)⟩ | exact ⟨b, rfl, ⟨_, rfl, hq⟩⟩
  unfold richCompare
  simp only [oneThing_ref]
  refine wpAny_holding (wpAny_bind (wpAny_cRoomFor (by omega) ?_))
  refine wpAny_bind (I.type.here (wpAny_bind (hb.here ?_)))
  rw [show (Value.ref C != Value.ref C) = false from by simp]
  simp only [Bool.false_eq_true, if_false]
  refine wpAny_bind (wpAny_pure ?_)
  simp only [Bool.false_eq_true, if_false]
  refine wpAny_bind (wpAny_mono one (fun r s' z => ?_) fun _ _ e => e)
  obtain ⟨v, rfl, hq⟩ := z
  first | exact wpAny_pure hq | exact hq
end
section
variable {X : Cx} {k j : Nat} {C : Addr} {sp : Sp}
theorem met_run {mth : Str} {pins : List (Addr × Obj)} {σ : L2.St} {H : Hp} {s : Shared} {A : Around} {a b : Addr} {Q : Value → Shared → Prop} (c : Met X.prog X.w X.K X.mg X.base k C mth sp []) (hr : Room k A) (hfr : A.frames = X.A.frames) (I : Inv X pins σ H s)
    {R : VK} (hsp : sp [.ref a, .ref b] H R C8.E0) (hQ : ∀ v z H' s', Inv X pins σ H' s' → RelV z v → R z H' → Q v s') :
    ∃ f, PySem.W.findIn X.K (.ref C) mth = some (some (.ref f)) ∧ PySem.W.isFn X.K (.ref f) = true ∧ wpAny (model X.prog X.w) A (call (.ref f) [.ref a, .ref b]) Q X.xe s := by
  obtain ⟨f, fd, ps, ds, hc, hm, F, hb, hd⟩ := c.ex
  refine ⟨f, hm.at_, hm.fn, ?_⟩
  have e0 : Env0 X.prog X.w X.K X.mg X.base A X.stack s H := by
    have e := I.env0
    exact ⟨by rw [hfr]; exact e.frames, e.mod, e.bs, e.bsz, e.funs, e.frf, e.hok, e.bare⟩
  have hds : ds = [] := by cases hd; rfl
  subst hds
  have hl := F.len _ _ _ _ hsp
  have r2 : Vals [V.ref a, V.ref b] [Value.ref a, Value.ref b] := .cons rfl (.cons rfl .nil)
  refine wpAny_call (codeAny_mono (F.run A X.stack s H ⟨[.ref a, .ref b], []⟩ [.ref a, .ref b] [.ref a, .ref b] _ C8.E0 hr e0 (by
    have := hb s [.ref a, .ref b] I.kIn (by simpa using hl)
    simpa using this) r2 hsp) fun r s' hq => ?_)
  cases r with
  | error e => exact C8.pass0 (E := C8.E0) pins σ H s e s' I hq
  | ok fl =>
    cases fl with
    | ret w =>
      obtain ⟨z, H', I', rz, q⟩ := I.after hq
      exact hQ w z H' s' I' rz q
    | next => exact False.elim hq
    | brk => exact False.elim hq
    | cont => exact False.elim hq
structure NeC (K : PySem.W.Frag) (C : Addr) : Prop where
  ne : PySem.W.findIn K (.ref C) "__ne__" = some (some (.builtin "object.__ne__"))
  ob : PySem.W.mroIn K C (.type "object") = some true
  sf : PySem.W.selfFirst K C = true
def rEqI (C : Addr) (sp : Sp) : R2 := fun x y H Q => ∃ a b dx dy fs gs, x = .ref a ∧ y = .ref b ∧ H a = some (.ins C dx fs) ∧ H b = some (.ins C dy gs) ∧ sp [.ref a, .ref b] H (fun v H' => ∃ r, v = .bl r ∧ Q (.bl r) H') C8.E0
def rNeI (C : Addr) (sp : Sp) : R2 := fun x y H Q => ∃ a b dx dy fs gs, x = .ref a ∧ y = .ref b ∧ H a = some (.ins C dx fs) ∧ H b = some (.ins C dy gs) ∧ sp [.ref a, .ref b] H (fun v H' => ∃ r, v = .bl r ∧ Q (.bl (!r)) H') C8.E0
def rOpI (C : Addr) (sp : Sp) : R2 := fun x y H Q => ∃ a b dx dy fs gs, x = .ref a ∧ y = .ref b ∧ H a = some (.ins C dx fs) ∧ H b = some (.ins C dy gs) ∧ sp [.ref a, .ref b] H (fun v H' => ∃ p, v = .ref p ∧ Q (.ref p) H') C8.E0
theorem op_eqI (c : Met X.prog X.w X.K X.mg X.base k C "__eq__" sp []) (hr : Room j X.A) (hk : k ≤ j) : OpR X (compareOp .Eq) (rEqI C sp) := by
  intro pins s σ H x y v u Q I rx ry h
  obtain ⟨a, b, dx, dy, fs, gs, rfl, rfl, ha, hb, hsp⟩ := h
  cases rx
  cases ry
  obtain ⟨mA, J, _⟩ := ins_get I.hok ha
  obtain ⟨mB, J', _⟩ := ins_get I.hok hb
  obtain ⟨od, J, _⟩ := J.look
  obtain ⟨od', J', _⟩ := J'.look
  obtain ⟨m, hF⟩ := I.fr
  obtain ⟨f, hs, hf, hw⟩ := met_run (Q := PySem.W.CmpBack (EP X pins σ Q)) c (hr.mono hk) rfl I hsp (fun v z H' s' I' rz q => by
    obtain ⟨r, rfl, q⟩ := q
    cases rz
    exact ⟨.bl r, H', I', rfl, q⟩)
  exact PySem.W.cmp_K (op := .Eq) (tb := .ref C) hr.units0 hF I.ok.mod.kin J J'.type (by simp [PySem.W.notFirst]) hs hf hw
theorem op_neI (n : NeC X.K C) (c : Met X.prog X.w X.K X.mg X.base k C "__eq__" sp []) (hr : Room j X.A) (hk : k + 1 ≤ j) : OpR X (compareOp .NotEq) (rNeI C sp) := by
  intro pins s σ H x y v u Q I rx ry h
  obtain ⟨a, b, dx, dy, fs, gs, rfl, rfl, ha, hb, hsp⟩ := h
  cases rx
  cases ry
  obtain ⟨mA, J, _⟩ := ins_get I.hok ha
  obtain ⟨mB, J', _⟩ := ins_get I.hok hb
  obtain ⟨od, J, _⟩ := J.look
  obtain ⟨od', J', _⟩ := J'.look
  obtain ⟨m, hF⟩ := I.fr
  obtain ⟨f, hs, hf, hw⟩ := met_run (Q := fun v s' => ∃ b, v = .bool b ∧ EP X pins σ Q (.bool (!b)) s') c (hr.mono hk).in1 rfl I hsp (fun v z H' s' I' rz q => by
    obtain ⟨r, rfl, q⟩ := q
    cases rz
    exact ⟨r, rfl, .bl (!r), H', I', rfl, q⟩)
  exact rcNe_own (hu_of hr) hF I.ok.mod.kin J J'.type hs hf n.ne n.ob hw
theorem op_mulI (n : NeC X.K C) (c : Met X.prog X.w X.K X.mg X.base k C "__mul__" sp []) (hr : Room j X.A) (hk : k ≤ j) : OpR X (binaryOp .Mult) (rOpI C sp) := by
  intro pins s σ H x y v u Q I rx ry h
  obtain ⟨a, b, dx, dy, fs, gs, rfl, rfl, ha, hb, hsp⟩ := h
  cases rx
  cases ry
  obtain ⟨mA, J, _⟩ := ins_get I.hok ha
  obtain ⟨mB, J', _⟩ := ins_get I.hok hb
  obtain ⟨od, J, _⟩ := J.look
  obtain ⟨od', J', _⟩ := J'.look
  obtain ⟨m, hF⟩ := I.fr
  obtain ⟨f, hs, hf, hw⟩ := met_run (Q := PySem.W.CmpBack (EP X pins σ Q)) c (hr.mono hk) rfl I hsp (fun v z H' s' I' rz q => by
    obtain ⟨p, rfl, q⟩ := q
    cases rz
    exact ⟨.ref p, H', I', rfl, q⟩)
  exact PySem.W.binop_K (op := .Mult) hF I.ok.mod.kin J J'.type n.sf hs hf hw
theorem op_addI (n : NeC X.K C) (c : Met X.prog X.w X.K X.mg X.base k C "__add__" sp []) (hr : Room j X.A) (hk : k ≤ j) : OpR X (binaryOp .Add) (rOpI C sp) := by
  intro pins s σ H x y v u Q I rx ry h
  obtain ⟨a, b, dx, dy, fs, gs, rfl, rfl, ha, hb, hsp⟩ := h
  cases rx
  cases ry
  obtain ⟨mA, J, _⟩ := ins_get I.hok ha
  obtain ⟨mB, J', _⟩ := ins_get I.hok hb
  obtain ⟨od, J, _⟩ := J.look
  obtain ⟨od', J', _⟩ := J'.look
  obtain ⟨m, hF⟩ := I.fr
  obtain ⟨f, hs, hf, hw⟩ := met_run (Q := PySem.W.CmpBack (EP X pins σ Q)) c (hr.mono hk) rfl I hsp (fun v z H' s' I' rz q => by
    obtain ⟨p, rfl, q⟩ := q
    cases rz
    exact ⟨.ref p, H', I', rfl, q⟩)
  exact PySem.W.binop_K (op := .Add) hF I.ok.mod.kin J J'.type n.sf hs hf hw
end
end LX
namespace LX
open PySem PySem.Spec PyProof.Rows L2 C8 SX
section
variable {X : Cx} {K : PySem.W.Frag} {H : Hp}
def txs (xs : List (List Nat)) : List V := xs.map fun l => V.str (S l)
theorem txs_len (xs : List (List Nat)) : (txs xs).length = xs.length := List.length_map ..
theorem dp_strs : ∀ xs : List (List Nat), DpAll K H (txs xs) (xs.map fun l => PyData.str (S l))
  | [] => .nil
  | x :: xs => .cons (.str _) (dp_strs xs)
theorem eqv_strs : ∀ xs ys : List (List Nat), PyData.eqvAll (xs.map fun l => PyData.str (S l)) (ys.map fun l => PyData.str (S l)) = decide (xs = ys)
  | [], [] => rfl
  | [], _ :: _ => rfl
  | _ :: _, [] => rfl
  | x :: xs, y :: ys => by
    show (S x == S y && PyData.eqvAll (xs.map fun l => PyData.str (S l)) (ys.map fun l => PyData.str (S l))) = _
    rw [S_beq_eq, eqv_strs xs ys, ← Bool.decide_and]
    exact decide_eq_decide.mpr (by rw [List.cons.injEq])
def Small (xs : List (List Nat)) : Prop := ∀ l ∈ xs, ∀ c ∈ l, c < 1114112
theorem lay_strs : ∀ {xs : List (List Nat)}, Small xs → PyData.canLayAll0 (xs.map fun l => PyData.str (S l)) = true ∧ PyData.depthAll (xs.map fun l => PyData.str (S l)) ≤ 1
  | [], _ => ⟨rfl, Nat.zero_le _⟩
  | x :: xs, h => by
    obtain ⟨h1, h2⟩ := lay_strs (xs := xs) fun l hl => h l (List.mem_cons_of_mem _ hl)
    refine ⟨?_, ?_⟩
    · show (PyData.canLay0 (.str (S x)) && PyData.canLayAll0 (xs.map fun l => PyData.str (S l))) = true
      rw [h1, Bool.and_true]
      show (S x).cps.all (· < 0x110000) = true
      rw [← Array.all_toList, List.all_eq_true]
      exact fun c hc => decide_eq_true (h x List.mem_cons_self c hc)
    · show max (PyData.depth (.str (S x))) (PyData.depthAll (xs.map fun l => PyData.str (S l))) ≤ 1
      have e : PyData.depth (.str (S x)) ≤ 1 := Nat.zero_le _
      omega
theorem shaped_lst {xs : List (List Nat)} (h : Small xs) : SeqAt.shaped (.list (xs.map fun l => PyData.str (S l))) = true := by
  obtain ⟨h1, h2⟩ := lay_strs h
  show (PyData.canLayAll0 _ && decide (PyData.depthAll _ + 1 ≤ 64)) = true
  rw [h1, Bool.true_and, decide_eq_true_eq]; omega
theorem shaped_tup {xs : List (List Nat)} (h : Small xs) : SeqAt.shaped (.tuple (xs.map fun l => PyData.str (S l))) = true := by
  obtain ⟨h1, h2⟩ := lay_strs h
  show (PyData.canLayAll0 _ && decide (PyData.depthAll _ + 1 ≤ 64)) = true
  rw [h1, Bool.true_and, decide_eq_true_eq]; omega
def rSs (K : PySem.W.Frag) (f : Bool → Bool) : R2 := fun x y H Q => ∃ (a b : Addr) (xs ys : List (List Nat)), x = .ref a ∧ y = .ref b ∧ ((SqL K H a (txs xs) ∧ SqL K H b (txs ys)) ∨ (SqT K H a (txs xs) ∧ SqT K H b (txs ys))) ∧ Small xs ∧ Small ys ∧ Q (.bl (f (decide (xs = ys)))) H
theorem op_eqSs {k : Nat} (hr : Room k X.A) : OpR X (compareOp .Eq) (rSs X.K fun b => b) := by
  intro pins s σ H x y v u Q I rx ry h
  obtain ⟨a, b, xs, ys, rfl, rfl, hh, hx, hy, q⟩ := h
  rcases hh with ⟨h1, h2⟩ | ⟨h1, h2⟩
  · exact op_eqD hr.units pins s σ H _ _ v u Q I rx ry ⟨_, _, .lst h1 (dp_strs xs), .lst h2 (dp_strs ys), shaped_lst hx, shaped_lst hy, by rw [show PyData.eqv (.list (xs.map fun l => PyData.str (S l))) (.list (ys.map fun l => PyData.str (S l))) = _ from eqv_strs xs ys]; exact q⟩
  · exact op_eqD hr.units pins s σ H _ _ v u Q I rx ry ⟨_, _, .tup h1 (dp_strs xs), .tup h2 (dp_strs ys), shaped_tup hx, shaped_tup hy, by rw [show PyData.eqv (.tuple (xs.map fun l => PyData.str (S l))) (.tuple (ys.map fun l => PyData.str (S l))) = _ from eqv_strs xs ys]; exact q⟩
theorem op_neSs {k : Nat} (hr : Room k X.A) : OpR X (compareOp .NotEq) (rSs X.K fun b => !b) := by
  intro pins s σ H x y v u Q I rx ry h
  obtain ⟨a, b, xs, ys, rfl, rfl, hh, hx, hy, q⟩ := h
  rcases hh with ⟨h1, h2⟩ | ⟨h1, h2⟩
  · exact op_neD hr.units pins s σ H _ _ v u Q I rx ry ⟨_, _, .lst h1 (dp_strs xs), .lst h2 (dp_strs ys), shaped_lst hx, shaped_lst hy, by rw [show PyData.eqv (.list (xs.map fun l => PyData.str (S l))) (.list (ys.map fun l => PyData.str (S l))) = _ from eqv_strs xs ys]; exact q⟩
  · exact op_neD hr.units pins s σ H _ _ v u Q I rx ry ⟨_, _, .tup h1 (dp_strs xs), .tup h2 (dp_strs ys), shaped_tup hx, shaped_tup hy, by rw [show PyData.eqv (.tuple (xs.map fun l => PyData.str (S l))) (.tuple (ys.map fun l => PyData.str (S l))) = _ from eqv_strs xs ys]; exact q⟩
end
theorem occ_idx {l : List Nat} {c : Nat} (h : c ∈ l) : ∃ r, Builtin.Str.occurrences (S l) (S [c]) 0 (S l).length 1 = l.idxOf c :: r := by
  have hlt := List.idxOf_lt_length_of_mem h
  have hat : StrLaws.At (S l) (S [c]) (S l).length (l.idxOf c) := (StrLaws.subAt_one (S l) c _).mpr (by show l[l.idxOf c]? = some c; rw [List.getElem?_eq_getElem hlt, List.getElem_idxOf hlt])
  rcases StrLaws.occ_head (S l) (S [c]) 1 (Nat.le_refl _) with ⟨_, hn⟩ | ⟨i, r, e, ha, hn⟩
  · exact absurd hat (hn _)
  · refine ⟨r, ?_⟩
    have hi : l[i]? = some c := (StrLaws.subAt_one (S l) c i).mp ha
    have h1 : ¬ l.idxOf c < i := fun z => hn _ z hat
    have h2 : ¬ i < l.idxOf c := fun z => by
      obtain ⟨hl, e⟩ := List.getElem?_eq_some_iff.mp hi
      have q := List.not_of_lt_findIdx (p := (· == c)) (xs := l) z
      simp [e] at q
    have : i = l.idxOf c := by omega
    rw [e, this]
structure Keep (Rel : Hp → Hp → Prop) (H1 : Hp) : Prop where
  refl : Rel H1 H1
  trans : ∀ H H', Rel H1 H → Rel H H' → Rel H1 H'
  put : ∀ H D o, Rel H1 H → H1 D = none → Rel H1 (upd H D o)
  get : ∀ H H' D o, Rel H H' → H1 D = none → Rel H1 H → H D = some o → H' D = some o
theorem keep_same {H1 : Hp} : Keep Same H1 where
  refl := Same.refl _
  trans := fun _ _ a b => a.trans b
  put := fun H D o s hD b u e => by rw [upd_ne (ne_of_none e hD)]; exact s b u e
  get := fun H H' D o s _ _ e => s _ _ e
def Bk (Pb : HO → Prop) (b : Addr) (H H' : Hp) : Prop := (∀ a o, a ≠ b → H a = some o → H' a = some o) ∧ ∃ o, H' b = some o ∧ Pb o
theorem keep_bk {Pb : HO → Prop} {b : Addr} {H1 : Hp} (h : ∃ o, H1 b = some o ∧ Pb o) : Keep (Bk Pb b) H1 where
  refl := ⟨fun _ _ _ e => e, h⟩
  trans := fun _ _ p q => ⟨fun a o n e => q.1 a o n (p.1 a o n e), q.2⟩
  put := fun H D o s hD => by
    obtain ⟨o1, e1, _⟩ := h
    refine ⟨fun a u n e => by rw [upd_ne (ne_of_none e hD)]; exact s.1 a u n e, ?_⟩
    rw [upd_ne (ne_of_none e1 hD)]
    exact s.2
  get := fun H H' D o s hD _ e => by
    obtain ⟨o1, e1, _⟩ := h
    exact s.1 D o (ne_of_none e1 hD).symm e
theorem bk_same {Pb : HO → Prop} {b : Addr} {H H' : Hp} (s : Same H H') (h : ∃ o, H b = some o ∧ Pb o) : Bk Pb b H H' := ⟨fun a o _ e => s a o e, let ⟨o, e, p⟩ := h; ⟨o, s b o e, p⟩⟩
theorem sm_put {H H' : Hp} {p : Addr} {o : HO} (s : Same H H') (h : H p = none) : Same H (upd H' p o) := fun b u e => by rw [upd_ne (ne_of_none e h)]; exact s b u e
theorem sm_put' {H H' : Hp} {p : Addr} {o : HO} (s : Same H H') (h : H' p = none) : Same H (upd H' p o) := sm_put s (s.free h)
theorem sm_new {H : Hp} {p : Addr} {o : HO} (h : H p = none) : Same H (upd H p o) := sm_put (Same.refl H) h
theorem sm_seqT {K : PySem.W.Frag} {H H' : Hp} {a : Addr} {xs : List V} (e : Same H H') (h : SqT K H a xs) : SqT K H' a xs :=
  h.elim (fun h => .inl (h.elim (fun h => .inl (e _ _ h)) fun ⟨o, h⟩ => .inr ⟨o, e _ _ h⟩)) fun h => .inr h
theorem bk_seq {Pb : HO → Prop} {K : PySem.W.Frag} {b : Addr} {H H' : Hp} {a : Addr} {xs : List V} (e : Bk Pb b H H') (n : a ≠ b) (h : SqL K H a xs) : SqL K H' a xs := by
  rcases h with (h | ⟨o, h⟩) | h
  · exact .inl (.inl (e.1 _ _ n h))
  · exact .inl (.inr ⟨o, e.1 _ _ n h⟩)
  · exact .inr h
theorem lc_keep {Rel : Hp → Hp → Prop} {J : It} {n : Nat} {G : Hp → Prop} {Y : Nat → Hp → V → Hp → Prop} {H1 : Hp} (kp : Keep Rel H1) (w : Walk J n G Y) {g : TG} {te : TE} {vs : List Nat} {σ : L2.St} {D : Addr} {Qd : Hp → Prop} (hD : H1 D = none) (hn : n < sizeLine)
    (Good : Nat → V → Prop) (hG : ∀ H, Rel H1 H → G H)
    (hs : ∀ i x H H' (R : V → Hp → Prop), i < n → Rel H1 H → Y i H x H' → (∀ y H4, Rel H H4 → Good i y → R y H4) → g x (wipe σ vs) H' fun σ2 H2 => wipe σ2 vs = wipe σ vs ∧ te σ2 H2 R)
    (hd : ∀ ys H, ys.length = n → (∀ (j : Nat) y, ys[j]? = some y → Good j y) → Rel H1 H → H D = some (.lst ys) → Qd H) :
    ∃ W : Nat → Nat → Hp → Prop, (∃ m, W 0 m (upd H1 D (.lst []))) ∧ ∀ i m H, W i m H →
      (J.stop i H ∧ Qd H) ∨ (J.go i H ∧ ∃ Nx : Hp → Prop, (∀ H', Nx H' → ∃ m', m' < m ∧ W (i + 1) m' H') ∧ ∀ x H', J.yld i H x H' → g x (wipe σ vs) H' fun σ2 H2 => wipe σ2 vs = wipe σ vs ∧ tYes σ2 H2 fun b H3 =>
        if b = true then te σ2 H3 fun y H4 => ∃ acc, H4 D = some (.lst acc) ∧ acc.length < sizeLine ∧ Nx (upd H4 D (.lst (acc ++ [y]))) else Nx H3) := by
  refine lc_it w (fun i H => ∃ acc, acc.length = i ∧ H D = some (.lst acc) ∧ Rel H1 H ∧ ∀ (j : Nat) y, acc[j]? = some y → Good j y) ⟨[], rfl, upd_same, kp.put _ _ _ kp.refl hD, fun j y e => by simp at e⟩ (fun i H _ ⟨_, _, _, r, _⟩ => hG H r) (fun i x H H' hi ⟨acc, hl, hDa, r, hg⟩ hy => ?_) (fun H ⟨acc, hl, hDa, r, hg⟩ => hd acc H hl hg r hDa)
  refine hs i x H H' _ hi r hy fun y H4 r4 gy => ?_
  refine ⟨acc, kp.get _ _ _ _ r4 hD r hDa, by omega, acc ++ [y], by simp [hl], upd_same, kp.put _ _ _ (kp.trans _ _ r r4) hD, fun j z e => ?_⟩
  rcases Nat.lt_or_ge j acc.length with h | h
  · rw [List.getElem?_append_left h] at e
    exact hg j z e
  · rw [List.getElem?_append_right h] at e
    have hj : j - acc.length = 0 := by
      rcases Nat.lt_or_ge (j - acc.length) 1 with z | z
      · omega
      · rw [List.getElem?_eq_none (by simpa using z)] at e; cases e
    rw [hj] at e
    have : y = z := Option.some.inj e
    subst this
    have : j = i := by omega
    subst this
    exact gy
theorem list_of {α : Type} {ys : List α} {n : Nat} {f : Nat → α} (hl : ys.length = n) (h : ∀ (j : Nat) y, ys[j]? = some y → y = f j) : ys = (List.range n).map f := by
  apply List.ext_getElem
  · simp [hl]
  · intro i h1 h2
    rw [List.getElem_map, List.getElem_range]
    exact h i _ (List.getElem?_eq_getElem h1)
theorem list_map {α β : Type} {ys : List β} {xs : List α} {f : α → β} (hl : ys.length = xs.length) (h : ∀ (j : Nat) y x, ys[j]? = some y → xs[j]? = some x → y = f x) : ys = xs.map f := by
  apply List.ext_getElem
  · simp [hl]
  · intro i h1 h2
    rw [List.getElem_map]
    exact h i _ _ (List.getElem?_eq_getElem h1) (List.getElem?_eq_getElem (by omega))
end LX
namespace LX
open PySem PySem.Spec PyProof.Rows L2 C8 SX
section
variable {X : Cx}
theorem ixl (K : PySem.W.Frag) (h : X.K = K := by rfl) : IxR X (rIxL K) := by subst h; exact ix_list
theorem ixt (K : PySem.W.Frag) (h : X.K = K := by rfl) : IxR X (rIxT K) := by subst h; exact ix_tup
theorem lenK (K : PySem.W.Frag) (h : X.K = K := by rfl) : CallR X (.builtin "len") (fun xs H Q => ∃ p ys, xs = [.ref p] ∧ (SqL K H p ys ∨ SqT K H p ys) ∧ Q (.int ys.length) H) := by subst h; exact call_len_seq
theorem listK (K : PySem.W.Frag) (h : X.K = K := by rfl) : CallR X (.type "list") (fun xs H Q => ∃ p ys, xs = [.ref p] ∧ (SqL K H p ys ∨ SqT K H p ys) ∧ ∀ l, H l = none → Q (.ref l) (upd H l (.lst ys))) := by subst h; exact call_list_of
theorem tupleK (K : PySem.W.Frag) (h : X.K = K := by rfl) : CallR X (.type "tuple") (fun xs H Q => ∃ p ys, xs = [.ref p] ∧ ((SqL K H p ys ∧ ∀ l, H l = none → Q (.ref l) (upd H l (.tup ys))) ∨ (SqT K H p ys ∧ Q (.ref p) H))) := by subst h; exact call_tuple_of
theorem isiK (K : PySem.W.Frag) (h : X.K = K := by rfl) : CallR X (.builtin "isinstance") (rIsi K) := by subst h; exact call_isi
theorem isiTK (K : PySem.W.Frag) (h : X.K = K := by rfl) : CallR X (.builtin "isinstance") (rIsiT K) := by subst h; exact call_isiT
theorem fldK (K : PySem.W.Frag) {o : Expr} {f : Str} {pos : Pos} {ta : TE} (ha : PE X o ta) (hb : attributeBase o f X.env (eval o X.env) = eval o X.env) (h : X.K = K := by rfl) : PE X (.Attribute o f pos) (tFld K ta f) := by subst h; exact pe_fld ha hb
theorem tupK (K : PySem.W.Frag) {es : List Expr} {k : Nat} {pos : Pos} {t : TGs} (n : Nat) (h : PGs X es t) (hc : X.calm = true := by rfl)
    (hn : (assignEach es X.env).length = n := by rfl) (hst : (assignEach es X.env).findIdx? (·.1) = none := by rfl) (hK : X.K = K := by rfl) : PG X (.Tuple es k pos) (gTup K n t) := by subst hK; exact pg_tup hc h hn hst
theorem unlK (K : PySem.W.Frag) {es : List Expr} {k : Nat} {pos : Pos} {t : TGs} (n : Nat) (h : PGs X es t) (hc : X.calm = true := by rfl)
    (hn : (assignEach es X.env).length = n := by rfl) (hst : (assignEach es X.env).findIdx? (·.1) = none := by rfl) (hK : X.K = K := by rfl) : PG X (.Tuple es k pos) (gUnl K n t) := by subst hK; exact pg_unl hc h hn hst
end
def Sr.is (K : PySem.W.Frag) (H : Hp) (xs : List V) : Sr → Prop
  | .txt x => xs = x.cps.toList.map fun c => V.str ⟨#[c]⟩
  | .lst a => SqL K H a xs
  | .tup a => SqT K H a xs
theorem Sr.is_there {K : PySem.W.Frag} {H : Hp} {xs : List V} : ∀ {S : Sr}, S.is K H xs → S.there K H
  | .txt _, _ => trivial
  | .lst _, h => ⟨xs, h⟩
  | .tup _, h => ⟨xs, h⟩
theorem Sr.is_has {K : PySem.W.Frag} {H : Hp} {xs : List V} {i : Nat} (hi : i < xs.length) : ∀ {S : Sr}, S.is K H xs → S.has K i H
  | .txt x, h => by
    have h' : xs = x.cps.toList.map fun c => V.str ⟨#[c]⟩ := h
    rw [h', List.length_map] at hi
    show i < x.cps.size; simpa using hi
  | .lst _, h => ⟨xs, h, hi⟩
  | .tup _, h => ⟨xs, h, hi⟩
theorem Sr.is_upto {K : PySem.W.Frag} {H : Hp} {xs : List V} {i : Nat} (hi : i ≤ xs.length) : ∀ {S : Sr}, S.is K H xs → S.upto K i H
  | .txt x, h => by
    have h' : xs = x.cps.toList.map fun c => V.str ⟨#[c]⟩ := h
    rw [h', List.length_map] at hi
    show i ≤ x.cps.size; simpa using hi
  | .lst _, h => ⟨xs, h, hi⟩
  | .tup _, h => ⟨xs, h, hi⟩
theorem Sr.is_ends {K : PySem.W.Frag} {H : Hp} {xs : List V} {i : Nat} (hi : i = xs.length) : ∀ {S : Sr}, S.is K H xs → S.ends K i H
  | .txt x, h => by
    have h' : xs = x.cps.toList.map fun c => V.str ⟨#[c]⟩ := h
    rw [h', List.length_map] at hi
    show i = x.cps.size; simpa using hi
  | .lst _, h => ⟨xs, h, hi⟩
  | .tup _, h => ⟨xs, h, hi⟩
theorem Sr.is_val {K : PySem.W.Frag} {H : Hp} {xs : List V} {i : Nat} {v : V} : ∀ {S : Sr}, S.is K H xs → S.val K i H v → xs[i]? = some v
  | .txt x, h, ⟨c, e, ev⟩ => by
    have h' : xs = x.cps.toList.map fun c => V.str ⟨#[c]⟩ := h
    have e' : x.cps.toList[i]? = some c := by simpa using e
    rw [h', List.getElem?_map, e', ev]; rfl
  | .lst _, h, e => e xs h
  | .tup _, h, e => e xs h
theorem walk_zipX {K : PySem.W.Frag} {S1 S2 : Sr} {xs ys : List V} : Walk (ItzX K S1 S2) (min xs.length ys.length) (fun H => S1.is K H xs ∧ S2.is K H ys) (YPair (fun i => xs[i]?) (fun i => ys[i]?)) := by
  refine ⟨fun i _ hi q => ⟨Sr.is_has (by omega) q.1, Sr.is_has (by omega) q.2⟩, fun _ q => ⟨Sr.is_upto (by omega) q.1, Sr.is_upto (by omega) q.2, ?_⟩, fun i H v H' _ q y => ?_⟩
  · rcases Nat.le_total xs.length ys.length with h | h
    · exact .inl (Sr.is_ends (by omega) q.1)
    · exact .inr (Sr.is_ends (by omega) q.2)
  · obtain ⟨T, x, z, h1, h2, h3, h4, h5⟩ := y
    exact ⟨T, x, z, h1, h2, h3, Sr.is_val q.1 h4, Sr.is_val q.2 h5⟩
end LX
namespace LX
open PySem PySem.Spec PyProof.Rows L2 C8 SX
theorem lc_keepH {Rel : Hp → Hp → Prop} {J : It} {n : Nat} {G : Hp → Prop} {Y : Nat → Hp → V → Hp → Prop} {H1 : Hp} (kp : Keep Rel H1) (w : Walk J n G Y) {g : TG} {te : TE} {vs : List Nat} {σ : L2.St} {D : Addr} {Qd : Hp → Prop} (hD : H1 D = none) (hn : n < sizeLine)
    (Good : Nat → V → Hp → Prop) (hG : ∀ H, Rel H1 H → G H)
    (st : ∀ i y H H', Rel H1 H → Rel H H' → Good i y H → Good i y H') (pt : ∀ i y H acc o, Rel H1 H → H D = some (.lst acc) → Good i y H → Good i y (upd H D o))
    (hs : ∀ i x H H' acc (R : V → Hp → Prop), i < n → Rel H1 H → H D = some (.lst acc) → Y i H x H' → (∀ y H4, Rel H H4 → Good i y H4 → R y H4) → g x (wipe σ vs) H' fun σ2 H2 => wipe σ2 vs = wipe σ vs ∧ te σ2 H2 R)
    (hd : ∀ ys H, ys.length = n → (∀ (j : Nat) y, ys[j]? = some y → Good j y H) → Rel H1 H → H D = some (.lst ys) → Qd H) :
    ∃ W : Nat → Nat → Hp → Prop, (∃ m, W 0 m (upd H1 D (.lst []))) ∧ ∀ i m H, W i m H →
      (J.stop i H ∧ Qd H) ∨ (J.go i H ∧ ∃ Nx : Hp → Prop, (∀ H', Nx H' → ∃ m', m' < m ∧ W (i + 1) m' H') ∧ ∀ x H', J.yld i H x H' → g x (wipe σ vs) H' fun σ2 H2 => wipe σ2 vs = wipe σ vs ∧ tYes σ2 H2 fun b H3 =>
        if b = true then te σ2 H3 fun y H4 => ∃ acc, H4 D = some (.lst acc) ∧ acc.length < sizeLine ∧ Nx (upd H4 D (.lst (acc ++ [y]))) else Nx H3) := by
  refine lc_it w (fun i H => ∃ acc, acc.length = i ∧ H D = some (.lst acc) ∧ Rel H1 H ∧ ∀ (j : Nat) y, acc[j]? = some y → Good j y H) ⟨[], rfl, upd_same, kp.put _ _ _ kp.refl hD, fun j y e => by simp at e⟩ (fun i H _ ⟨_, _, _, r, _⟩ => hG H r) (fun i x H H' hi ⟨acc, hl, hDa, r, hg⟩ hy => ?_) (fun H ⟨acc, hl, hDa, r, hg⟩ => hd acc H hl hg r hDa)
  refine hs i x H H' acc _ hi r hDa hy fun y H4 r4 gy => ?_
  have hD4 := kp.get _ _ _ _ r4 hD r hDa
  have r5 := kp.trans _ _ r r4
  refine ⟨acc, hD4, by omega, acc ++ [y], by simp [hl], upd_same, kp.put _ _ _ r5 hD, fun j z e => ?_⟩
  rcases Nat.lt_or_ge j acc.length with h | h
  · rw [List.getElem?_append_left h] at e
    exact pt _ _ _ _ _ r5 hD4 (st _ _ _ _ r r4 (hg j z e))
  · rw [List.getElem?_append_right h] at e
    have hj : j - acc.length = 0 := by
      rcases Nat.lt_or_ge (j - acc.length) 1 with z | z
      · omega
      · rw [List.getElem?_eq_none (by simpa using z)] at e; cases e
    rw [hj] at e
    have : y = z := Option.some.inj e
    subst this
    have : j = i := by omega
    subst this
    exact pt _ _ _ _ _ r5 hD4 gy
end LX
set_option maxHeartbeats 2000000
namespace LX
open PySem PySem.Spec PyProof.Rows L2 C8 SX
theorem S_contains (sg : List Nat) (c : Nat) : (S sg).cps.contains c = decide (c ∈ sg) := by
  rw [Bool.eq_iff_iff, decide_eq_true_eq, ← Array.contains_toList]
  simp [S]
theorem S_empty {l : List Nat} : S l = S [] ↔ l = [] := by
  constructor
  · intro h
    have : (S l).cps.toList = (S []).cps.toList := congrArg (fun z : Str => z.cps.toList) h
    simpa [S] using this
  · rintro rfl; rfl
theorem takeWhile_all {p : Nat → Bool} : ∀ {l : List Nat}, (∀ c ∈ l, p c = true) → l.takeWhile p = l
  | [], _ => rfl
  | c :: l, h => by rw [List.takeWhile_cons, if_pos (h c List.mem_cons_self), takeWhile_all fun d hd => h d (List.mem_cons_of_mem _ hd)]
theorem takeWhile_short {p : Nat → Bool} : ∀ {l : List Nat}, ¬ (∀ c ∈ l, p c = true) → (l.takeWhile p).length < l.length ∧ ∃ d r, l.drop (l.takeWhile p).length = d :: r ∧ p d = false
  | [], h => absurd (fun _ h => nomatch h) h
  | c :: l, h => by
    by_cases hc : p c = true
    · have h' : ¬ ∀ c ∈ l, p c = true := fun q => h fun d hd => by
        rcases List.mem_cons.mp hd with rfl | z
        · exact hc
        · exact q d z
      obtain ⟨i1, d, r, i2, i3⟩ := takeWhile_short h'
      rw [List.takeWhile_cons, if_pos hc]
      exact ⟨Nat.succ_lt_succ i1, d, r, i2, i3⟩
    · rw [List.takeWhile_cons, if_neg hc]
      exact ⟨Nat.succ_pos _, c, l, rfl, by simpa using hc⟩
theorem strip_nil {l sg : List Nat} : Txt.stripChars (S l) (S sg) = S [] ↔ ∀ c ∈ l, c ∈ sg := by
  unfold Txt.stripChars Txt.stripBy stripSame stripped stripLo stripHi
  have eg : (S sg).cps.contains = fun c => decide (c ∈ sg) := funext fun c => S_contains sg c
  have el : (S l).cps.toList = l := rfl
  have en : (S l).length = l.length := S_len l
  rw [eg, if_pos rfl, if_pos rfl, el, en]
  generalize hp : (fun c => decide (c ∈ sg)) = p
  have hpc : ∀ c, p c = true ↔ c ∈ sg := fun c => by rw [← hp]; exact decide_eq_true_iff
  by_cases h : ∀ c ∈ l, p c = true
  · refine ⟨fun _ c hc => (hpc c).mp (h c hc), fun _ => ?_⟩
    rw [takeWhile_all h, List.drop_length, List.reverse_nil, List.takeWhile_nil, List.length_nil, Nat.sub_zero]
    by_cases e : l = []
    · subst e; rfl
    · have : l.length ≠ 0 := fun z => e (List.length_eq_zero_iff.mp z)
      rw [if_neg (by simpa using this)]
      show (⟨(S l).cps.extract l.length l.length⟩ : Str) = S []
      simp [S]
  · obtain ⟨i1, d, r, i2, i3⟩ := takeWhile_short h
    refine ⟨fun e => absurd e ?_, fun q => absurd (fun c hc => (hpc c).mpr (q c hc)) h⟩
    rw [i2]
    have hr : ¬ ∀ c ∈ (d :: r).reverse, p c = true := fun q => by have := q d (by simp); rw [i3] at this; cases this
    have j1 := (takeWhile_short hr).1
    have hlen : (d :: r).length = l.length - (l.takeWhile p).length := by rw [← i2, List.length_drop]
    rw [List.length_reverse] at j1
    by_cases same : ((l.takeWhile p).length == 0 && l.length - ((d :: r).reverse.takeWhile p).length == l.length) = true
    · rw [if_pos same]
      intro e
      have := S_empty.mp e
      subst this
      exact absurd i1 (by simp)
    · rw [if_neg same]
      intro e
      have e2 : ((S l).cps.extract (l.takeWhile p).length (l.length - ((d :: r).reverse.takeWhile p).length)).size = 0 := by
        have : (Builtin.Str.strSub (S l) (l.takeWhile p).length (l.length - ((d :: r).reverse.takeWhile p).length)).cps = (S []).cps := by rw [e]
        rw [show (S l).cps.extract (l.takeWhile p).length (l.length - ((d :: r).reverse.takeWhile p).length) = (S []).cps from this]; rfl
      rw [Array.size_extract] at e2
      have e3 : (S l).cps.size = l.length := by simp [S]
      rw [e3] at e2
      omega
theorem strip_eq {l sg : List Nat} : decide (Txt.stripChars (S l) (S sg) = S []) = decide (∀ c ∈ l, c ∈ sg) := decide_eq_decide.mpr strip_nil
def az : List Nat := (List.range 26).map (· + 97)
theorem az_mem {c : Nat} : c ∈ az ↔ 97 ≤ c ∧ c ≤ 122 := by
  unfold az
  rw [List.mem_map]
  constructor
  · rintro ⟨i, hi, rfl⟩
    have := List.mem_range.mp hi
    omega
  · rintro ⟨h1, h2⟩
    exact ⟨c - 97, List.mem_range.mpr (by omega), by omega⟩
theorem s_az : (Str.ofString "abcdefghijklmnopqrstuvwxyz") = S az := by decide +kernel
end LX
namespace Toy
open PySem L2 C8 SX LX
def top (i : Nat) : Stmt := PySem.Challenge.pw_allrows_k03_changes_done_one_behind_anot.main.body.getD i (.Pass ⟨0, 0, 0, 0⟩)
def bx (x y z : Int) : HO := .lst [.int x, .int y, .int z]
def isBx (o : HO) : Prop := ∃ x y z : Int, o = bx x y z
def BoxAt (b : Addr) (H : Hp) : Prop := ∃ o, H b = some o ∧ isBx o
abbrev Bx (b : Addr) : Hp → Hp → Prop := Bk isBx b
theorem Bx.box {b : Addr} {H H' : Hp} (h : Bx b H H') : BoxAt b H' := h.2
theorem BoxAt.of {b : Addr} {H : Hp} {x y z : Int} (h : H b = some (bx x y z)) : BoxAt b H := ⟨_, h, _, _, _, rfl⟩
theorem Bx.mk {b : Addr} {H : Hp} (x y z : Int) : Bx b H (upd H b (bx x y z)) := ⟨fun a o n e => by rw [upd_ne n]; exact e, _, upd_same, _, _, _, rfl⟩
theorem Bx.trans {b : Addr} {H H1 H2 : Hp} (p : Bx b H H1) (q : Bx b H1 H2) : Bx b H H2 := ⟨fun a o n e => q.1 a o n (p.1 a o n e), q.2⟩
theorem box_ne {b p : Addr} {H : Hp} (h : BoxAt b H) (n : H p = none) : p ≠ b := by
  obtain ⟨o, e, _⟩ := h
  exact (ne_of_none e n).symm
theorem Bx.put {b p : Addr} {H H1 : Hp} {o : HO} (s : Bx b H H1) (h : BoxAt b H) (n : H p = none) : Bx b H (upd H1 p o) := (keep_bk h).put _ _ _ s n
theorem Bx.free {b p : Addr} {H H1 : Hp} (s : Bx b H H1) (n : H1 p = none) : H p = none := by
  cases q : H p with
  | none => rfl
  | some o =>
    by_cases e : p = b
    · subst e; obtain ⟨u, z, _⟩ := s.2; rw [n] at z; cases z
    · rw [s.1 p o e q] at n; cases n
def sgs : List (List Nat) := [[97, 98], [97], [97, 98, 99], [120, 122]]
def Menu (sg : List Nat) : Prop := sg ∈ sgs
def Ov (sg l : List Nat) : Prop := ∀ c ∈ l, c ∈ sg
def Ims (sg : List Nat) (ims : List (List Nat)) (m : Nat) : Prop := ims.length = sg.length ∧ ∀ l ∈ ims, Ov sg l ∧ l.length ≤ m
def img (sg : List Nat) (ims : List (List Nat)) (c : Nat) : List Nat := ims.getD (sg.idxOf c) []
def app (sg : List Nat) (ims : List (List Nat)) (l : List Nat) : List Nat := l.flatMap (img sg ims)
structure BT (mg : Str → Option Value) : Prop where
  m_int : mg "int" = none
  m_len : mg "len" = none
  m_abs : mg "abs" = none
  m_str : mg "str" = none
  m_list : mg "list" = none
  m_tuple : mg "tuple" = none
  m_isinstance : mg "isinstance" = none
  m_all : mg "all" = none
  m_zip : mg "zip" = none
  m_range : mg "range" = none
  m_max : mg "max" = none
  m_min : mg "min" = none
local macro_rules | `(tactic| walk_at "c") => `(tactic| refine And.intro (by first | (show (0 : Int) < _; omega) | exact Or.inr ⟨by decide, by decide⟩ | exact Or.inl ⟨by decide, by decide⟩ | (exact ⟨by omega, by omega⟩)) ?_)
local macro_rules | `(tactic| walk_at "s1") => `(tactic| first | refine ⟨_, rfl, ?_⟩ | refine ⟨_, _, rfl, rfl, ?_⟩ | refine .inl ⟨_, rfl, ?_⟩ | walk_at "c")
local macro_rules | `(tactic| walk_at "ix") => `(tactic| refine ⟨_, _, _, _, rfl, rfl, SqL.of (by first | assumption | exact upd_same), rfl, ?_⟩)
local macro_rules | `(tactic| walk_at "s") => `(tactic| repeat (walk_at "s1"))
section
variable {P : Program} {w : World} {K : PySem.W.Frag} {mg : Str → Option Value} {base : Heap}
abbrev s_choose : Stmt := top 15
abbrev n_choose : List Str := ["box", "many", "digit", "raw"]
theorem sc_choose : FnScope n_choose ["box", "many"] (fnScope s_choose) := fnScope_by (by decide +kernel)
def spChoose : Sp := fun vs H Q _ => ∃ (b : Addr) (n : Int), vs = [.ref b, .int n] ∧ BoxAt b H ∧ 0 < n ∧ n < 1000 ∧
  ∀ (d : Int) (H' : Hp), 0 ≤ d → d < n → Bx b H H' → Q (.int d) H'
theorem ok_choose (T : BT mg) {f : Addr} {fd : FuncData} (F : Def K mg "_law_choose" s_choose f fd) (b : Binds K fd ["box", "many"] []) : Cal P w K mg base 1 "_law_choose" spChoose [] := by
  refine cal0 F b .nil sc_choose (fun vs H Q E h => ?_) (fun cdv A outer s H vs Q E hr h => ?_)
  · obtain ⟨b, n, rfl, _⟩ := h; rfl
  · obtain ⟨b, n, rfl, ⟨o, hb, x, y, z, rfl⟩, n0, n1, k⟩ := h
    refine ⟨_, (pss_cons (ps_if (pt_cmpR op_gt (pe_ix (ixl K) (pv 0) pe_int (fun _ _ => rfl)) pe_int (nomark _)) 
        (pss_cons (ps_set (i := 2) sc_choose.nd rfl (.inl rfl) (pe_op op_mod (pe_callTy call_int1 (by rfl) T.m_int PyProof.Rows.boot_int (pa_cons (pe_ix (ixl K) (pv 0) pe_int (fun _ _ => rfl)) pa_nil)) (pv 1)))
        (pss_cons (ps_asg (pe_op op_fdiv (pe_ix (ixl K) (pv 0) pe_int (fun _ _ => rfl)) (pv 1)) (pg_sub (pv 0) pe_int set_list))
        (pss_one (ps_ret (pv 2))
        )))
       pss_nil)
      (pss_cons (ps_asg (pe_op op_add (pe_ix (ixl K) (pv 0) pe_int (fun _ _ => rfl)) pe_int) (pg_sub (pv 0) pe_int set_list))
      (pss_cons (ps_set (i := 3) sc_choose.nd rfl (.inl rfl) (pe_op op_mod (pe_callTy call_int1 (by rfl) T.m_int PyProof.Rows.boot_int (pa_cons (pe_op op_add (pe_op op_mul (pe_op op_add (pe_ix (ixl K) (pv 0) pe_int (fun _ _ => rfl)) (pe_op op_mul pe_int (pe_ix (ixl K) (pv 0) pe_int (fun _ _ => rfl)))) pe_int) pe_int) pa_nil)) pe_int))
      (pss_cons (ps_asg (pe_op op_add (pe_op op_mod (pe_callTy call_int1 (by rfl) T.m_int PyProof.Rows.boot_int (pa_cons (pe_op op_add (pe_op op_mul (pv 3) pe_int) pe_int) pa_nil)) pe_int) pe_int) (pg_sub (pv 0) pe_int set_list))
      (pss_one (ps_ret (pe_op op_mod (pe_callTy call_int1 (by rfl) T.m_int PyProof.Rows.boot_int (pa_cons (pe_op op_fdiv (pe_op op_add (pe_op op_mul (pv 3) pe_int) (pe_ix (ixl K) (pv 0) pe_int (fun _ _ => rfl))) pe_int) pa_nil)) (pv 1)))
      ))))), ?_⟩
    walk_at "s"
    walk_at "ix"
    walk_at "s"
    refine ite2 (fun _ => ?_) (fun _ => ?_)
    · walk_at "s"
      walk_at "ix"
      walk_at "s"
      walk_at "ix"
      walk_at "s"
      refine ⟨_, _, _, _, rfl, rfl, hb, rfl, ?_⟩
      walk_at "s"
      exact k _ _ (Int.emod_nonneg _ (by omega)) (Int.emod_lt_of_pos _ n0) (Bx.mk _ _ _)
    · walk_at "s"
      walk_at "ix"
      walk_at "s"
      refine ⟨_, _, _, _, rfl, rfl, hb, rfl, ?_⟩
      walk_at "s"
      walk_at "ix"
      walk_at "s"
      walk_at "ix"
      walk_at "s"
      refine ⟨_, _, _, _, rfl, rfl, upd_same, rfl, ?_⟩
      walk_at "s"
      walk_at "ix"
      walk_at "s"
      exact k _ _ (Int.emod_nonneg _ (by omega)) (Int.emod_lt_of_pos _ n0) ((Bx.mk (x := x) (y := y) (z := z + 1)).trans (Bx.mk _ _ _))
abbrev s_one_of : Stmt := top 16
abbrev n_one_of : List Str := ["box", "some"]
theorem sc_one_of : FnScope n_one_of ["box", "some"] (fnScope s_one_of) := fnScope_by (by decide +kernel)
def spOne : PySem.W.Frag → Sp := fun K vs H Q _ => ∃ (b l : Addr) (xs : List V), vs = [.ref b, .ref l] ∧ BoxAt b H ∧ l ≠ b ∧ SqL K H l xs ∧ 0 < xs.length ∧ xs.length < 1000 ∧
  ∀ (v : V) (H' : Hp), v ∈ xs → Bx b H H' → Q v H'
theorem ok_one (T : BT mg) (c_choose : Cal P w K mg base 1 "_law_choose" spChoose []) {f : Addr} {fd : FuncData} (F : Def K mg "_law_one_of" s_one_of f fd) (b : Binds K fd ["box", "some"] []) : Cal P w K mg base 2 "_law_one_of" (spOne K) [] := by
  refine cal0 F b .nil sc_one_of (fun vs H Q E h => ?_) (fun cdv A outer s H vs Q E hr h => ?_)
  · obtain ⟨b, l, xs, rfl, _⟩ := h; rfl
  · obtain ⟨b, l, xs, rfl, hb, hlb, hl, h0, h1, k⟩ := h
    refine ⟨_, (pss_one (ps_ret (pe_ix (ixl K) (pv 1) (pe_c c_choose hr (by first | decide | omega) (by rfl) (pa_cons (pv 0) (pa_cons (pe_callB (lenK K) (by rfl) T.m_len PySem.boot_len (pa_cons (pv 1) pa_nil)) pa_nil))) (fun _ _ => rfl)))
      ), ?_⟩
    walk_at "s"
    refine ⟨_, _, rfl, .inl hl, ?_⟩
    refine ⟨b, (xs.length : Int), rfl, hb, by omega, by omega, fun d H' d0 d1 hB => ?_⟩
    have hd : d.toNat < xs.length := by omega
    refine ⟨_, _, _, xs[d.toNat], rfl, rfl, bk_seq hB hlb hl, ?_, ?_⟩
    · exact at_of (by omega) (List.getElem?_eq_getElem hd)
    · exact k _ _ (List.getElem_mem hd) hB
theorem s_ab : (Str.ofString "ab") = S [97, 98] := by decide +kernel
theorem s_a : (Str.ofString "a") = S [97] := by decide +kernel
theorem s_abc : (Str.ofString "abc") = S [97, 98, 99] := by decide +kernel
theorem s_xz : (Str.ofString "xz") = S [120, 122] := by decide +kernel
theorem s_z : (Str.ofString "z") = S [122] := by decide +kernel
theorem s_nil : (Str.ofString "") = S [] := by decide +kernel
abbrev s_signs : Stmt := top 17
abbrev n_signs : List Str := ["box"]
theorem sc_signs : FnScope n_signs ["box"] (fnScope s_signs) := fnScope_by (by decide +kernel)
def spSigns : Sp := fun vs H Q _ => ∃ (b : Addr), vs = [.ref b] ∧ BoxAt b H ∧ ∀ (sg : List Nat) (H' : Hp), Menu sg → Bx b H H' → Q (.str (S sg)) H'
theorem ok_signs (T : BT mg) (c_one_of : Cal P w K mg base 2 "_law_one_of" (spOne K) []) {f : Addr} {fd : FuncData} (F : Def K mg "_law_signs" s_signs f fd) (b : Binds K fd ["box"] []) : Cal P w K mg base 3 "_law_signs" spSigns [] := by
  refine cal0 F b .nil sc_signs (fun vs H Q E h => ?_) (fun cdv A outer s H vs Q E hr h => ?_)
  · obtain ⟨b, rfl, _⟩ := h; rfl
  · obtain ⟨b, rfl, hb, k⟩ := h
    refine ⟨_, (pss_one (ps_ret (pe_c c_one_of hr (by first | decide | omega) (by rfl) (pa_cons (pv 0) (pa_cons (pe_lst (pa_cons pe_str (pa_cons pe_str (pa_cons pe_str (pa_cons pe_str (pa_cons pe_str pa_nil)))))) pa_nil))))
      ), ?_⟩
    walk_at "s"
    refine ⟨by decide, fun p hp => ?_⟩
    have hpb := box_ne hb hp
    refine ⟨b, p, _, rfl, ((Bx.put (bk_same (Same.refl H) hb) hb hp)).2, hpb, SqL.of upd_same, by decide, by decide, fun v H' hv hB => ?_⟩
    have hB' : Bx b H H' := (Bx.put (bk_same (Same.refl H) hb) hb hp).trans hB
    have e : v = .str (Str.ofString "ab") ∨ v = .str (Str.ofString "ab") ∨ v = .str (Str.ofString "a") ∨ v = .str (Str.ofString "abc") ∨ v = .str (Str.ofString "xz") := by simpa using hv
    rcases e with rfl | rfl | rfl | rfl | rfl
    · rw [s_ab]; exact k _ _ (by unfold Menu sgs; simp) hB'
    · rw [s_ab]; exact k _ _ (by unfold Menu sgs; simp) hB'
    · rw [s_a]; exact k _ _ (by unfold Menu sgs; simp) hB'
    · rw [s_abc]; exact k _ _ (by unfold Menu sgs; simp) hB'
    · rw [s_xz]; exact k _ _ (by unfold Menu sgs; simp) hB'
theorem menu_cases {sg : List Nat} (h : Menu sg) : sg = [97, 98] ∨ sg = [97] ∨ sg = [97, 98, 99] ∨ sg = [120, 122] := by
  unfold Menu sgs at h; simpa using h
theorem menu_len {sg : List Nat} (h : Menu sg) : 0 < sg.length ∧ sg.length ≤ 3 := by
  rcases menu_cases h with rfl | rfl | rfl | rfl <;> decide
theorem menu_nodup {sg : List Nat} (h : Menu sg) : sg.Nodup := by
  rcases menu_cases h with rfl | rfl | rfl | rfl <;> decide
theorem menu_small {sg : List Nat} (h : Menu sg) : ∀ c ∈ sg, 97 ≤ c ∧ c ≤ 122 := by
  rcases menu_cases h with rfl | rfl | rfl | rfl <;> decide
theorem singles_join : ∀ (ys : List V) (m : Nat) (sg : List Nat), ys.length = m → (∀ (j : Nat) y, ys[j]? = some y → ∃ c ∈ sg, y = .str (S [c])) → ∃ l : List Nat, l.length = m ∧ Ov sg l ∧ ys = (l.map fun c => V.str (S [c]))
  | [], m, sg, e, _ => ⟨[], e, (fun _ h => nomatch h), rfl⟩
  | y :: ys, m, sg, e, h => by
    obtain ⟨l, e1, o1, e2⟩ := singles_join ys (m - 1) sg (by simp at e; omega) fun j z q => h (j + 1) z q
    obtain ⟨c, hc, ec⟩ := h 0 y rfl
    refine ⟨c :: l, by simp at e ⊢; omega, fun d hd => ?_, by rw [ec, e2]; rfl⟩
    rcases List.mem_cons.mp hd with rfl | hd
    · exact hc
    · exact o1 d hd
theorem join_nil : ∀ ys : List (List Nat), TL.joinL [] ys = ys.flatten
  | [] => rfl
  | [y] => by simp [TL.joinL]
  | y :: z :: ys => by
    have ih := join_nil (z :: ys)
    simp [TL.joinL] at ih ⊢
    exact ih
theorem join_txs (ys : List (List Nat)) : Txt.join (S []) (ys.map S) = S ys.flatten := by rw [join_S, join_nil]
theorem flat_singles : ∀ l : List Nat, (l.map fun c => [c]).flatten = l
  | [] => rfl
  | c :: l => by rw [List.map_cons, List.flatten_cons, flat_singles l]; rfl
abbrev s_row : Stmt := top 18
abbrev n_row : List Str := ["box", "signs", "most", "turn"]
theorem sc_row : FnScope n_row ["box", "signs", "most"] (fnScope s_row) := fnScope_by (by decide +kernel)
def spRow : Sp := fun vs H Q _ => ∃ (b : Addr) (sg : List Nat) (m : Nat), vs = [.ref b, .str (S sg), .int m] ∧ Menu sg ∧ m ≤ 100 ∧ BoxAt b H ∧ ∀ (l : List Nat) (H' : Hp), Ov sg l → l.length ≤ m → Bx b H H' → Q (.str (S l)) H'
theorem ok_row (T : BT mg) (c_choose : Cal P w K mg base 1 "_law_choose" spChoose []) (c_one_of : Cal P w K mg base 2 "_law_one_of" (spOne K) []) {f : Addr} {fd : FuncData} (F : Def K mg "_law_row" s_row f fd) (b : Binds K fd ["box", "signs", "most"] []) : Cal P w K mg base 3 "_law_row" spRow [] := by
  refine cal0 F b .nil sc_row (fun vs H Q E h => ?_) (fun cdv A outer s H vs Q E hr h => ?_)
  · obtain ⟨b, sg, m, rfl, _⟩ := h; rfl
  · obtain ⟨b, sg, m, rfl, hm, m100, hb, k⟩ := h
    refine ⟨_, (pss_one (ps_ret (pe_join pe_str (pe_lc (own := [("turn", 3)]) rfl sc_row.nd (pi_range1 (by rfl) T.m_range (pa_cons (pe_c c_choose hr (by first | decide | omega) (by rfl) (pa_cons (pv 0) (pa_cons (pe_op op_add (pv 2) pe_int) pa_nil))) pa_nil)) (blkOk_by (N := n_row) (sc := fnScope s_row) (by decide +kernel)) (fun _ _ _ _ _ => (pg_name (i := 3) sc_row.nd rfl (.inl rfl))) (fun _ _ _ _ _ => pts_nil) (fun _ _ _ _ _ => (pe_c c_one_of hr (by first | decide | omega) (by rfl) (pa_cons (pv 0) (pa_cons (pe_callTy (LX.call_list_str rfl) (by rfl) T.m_list PyProof.Rows.boot_list (pa_cons (pv 1) pa_nil)) pa_nil)))))))
      ), ?_⟩
    refine ⟨⟨_, rfl⟩, ?_⟩
    walk_at "s"
    refine ⟨b, (m : Int) + 1, rfl, hb, by omega, by omega, fun d H1 d0 d1 hB => ?_⟩
    refine ⟨_, rfl, by omega, by omega, fun D hD => ?_⟩
    refine lc_keep (keep_bk hB.2) (walk_range (lo := 0) (n := d.toNat)) hD (by show d.toNat < sizeLine; exact small1000 (by omega)) (fun _ y => ∃ c ∈ sg, y = .str (S [c])) (fun _ _ => trivial) (fun i x H2 H3 R hi r hy hR => ?_) (fun ys H2 hl hg r hDs => ?_)
    · obtain ⟨rfl, rfl⟩ := hy
      refine ⟨rfl, ?_⟩
      walk_at "s"
      refine ⟨Nat.le_trans (menu_len hm).2 (by decide), fun p hp => ?_⟩
      refine ⟨b, p, _, rfl, (Bx.put (bk_same (Same.refl H3) r.2) r.2 hp).2, box_ne r.2 hp, SqL.of upd_same, by simpa using (menu_len hm).1, by simp; have := (menu_len hm).2; omega, fun v H4 hv hB4 => ?_⟩
      refine hR v H4 ((Bx.put (bk_same (Same.refl H3) r.2) r.2 hp).trans hB4) ?_
      obtain ⟨c, hc, rfl⟩ := List.mem_map.mp hv
      exact ⟨c, hc, rfl⟩
    · obtain ⟨l, hl2, ho, rfl⟩ := singles_join ys _ sg hl hg
      have e1 : (l.map fun c => S [c]) = (l.map fun c => [c]).map S := by rw [List.map_map]; rfl
      have e2 : ((l.map fun c => S [c]).map (·.length)).sum ≤ 101 := by
        have : ∀ l : List Nat, ((l.map fun c => S [c]).map (·.length)).sum = l.length := by
          intro l; induction l with
          | nil => rfl
          | cons c l ih => simp only [List.map_cons, List.sum_cons, ih, List.length_cons]; rw [S_len]; simp; omega
        rw [this]; omega
      refine ⟨_, D, (l.map fun c => S [c]), rfl, rfl, .inl (SqL.of (by rw [List.map_map]; exact hDs)), ?_, ?_⟩
      · rw [s_nil, S_len]; simp only [List.length_nil, Nat.mul_zero, Nat.add_zero]; omega
      · show Q (.str (Txt.join (Str.ofString "") (l.map fun c => S [c]))) H2
        rw [s_nil, e1, join_txs, flat_singles]
        exact k l _ ho (by omega) (hB.trans r)
abbrev s_images : Stmt := top 19
abbrev n_images : List Str := ["box", "signs", "most", "form", "least", "found", "sign"]
theorem sc_images : FnScope n_images ["box", "signs", "most"] (fnScope s_images) := fnScope_by (by decide +kernel)
def spImages : Sp := fun vs H Q _ => ∃ (b : Addr) (sg : List Nat) (m : Nat), vs = [.ref b, .str (S sg), .int m] ∧ Menu sg ∧ 1 ≤ m ∧ m ≤ 100 ∧ BoxAt b H ∧
  ∀ (p : Addr) (ims : List (List Nat)) (H' : Hp), Ims sg ims m → Bx b H H' → H p = none → H' p = some (.lst (txs ims)) → Q (.ref p) H'
theorem ims_self {sg : List Nat} {m : Nat} (h : 1 ≤ m) : Ims sg (sg.map fun c => [c]) m := by
  refine ⟨List.length_map .., fun l hl => ?_⟩
  obtain ⟨c, hc, rfl⟩ := List.mem_map.mp hl
  exact ⟨fun d hd => by rw [List.mem_singleton.mp hd]; exact hc, h⟩
theorem ims_void {sg : List Nat} {m : Nat} : Ims sg (sg.map fun _ => []) m := by
  refine ⟨List.length_map .., fun l hl => ?_⟩
  obtain ⟨c, hc, rfl⟩ := List.mem_map.mp hl
  exact ⟨(fun d hd => nomatch hd), Nat.zero_le _⟩
theorem ite_ii {c : Prop} [Decidable c] {F : V → Prop} {z0 z1 : Int} (h : ∀ z, (z = z0 ∨ z = z1) → F (.int z)) : if c then F (.int z0) else F (.int z1) := by
  by_cases e : c
  · rw [if_pos e]; exact h _ (.inl rfl)
  · rw [if_neg e]; exact h _ (.inr rfl)
theorem ok_images (T : BT mg) (c_choose : Cal P w K mg base 1 "_law_choose" spChoose []) (c_one_of : Cal P w K mg base 2 "_law_one_of" (spOne K) []) (c_row : Cal P w K mg base 3 "_law_row" spRow []) {f : Addr} {fd : FuncData} (F : Def K mg "_law_images" s_images f fd) (b : Binds K fd ["box", "signs", "most"] []) : Cal P w K mg base 4 "_law_images" spImages [] := by
  refine cal0 F b .nil sc_images (fun vs H Q E h => ?_) (fun cdv A outer s H vs Q E hr h => ?_)
  · obtain ⟨b, sg, m, rfl, _⟩ := h; rfl
  · obtain ⟨b, sg, m, rfl, hm, m1, m100, hb, k⟩ := h
    refine ⟨_, (pss_cons (ps_set (i := 3) sc_images.nd rfl (.inl rfl) (pe_c c_choose hr (by first | decide | omega) (by rfl) (pa_cons (pv 0) (pa_cons pe_int pa_nil))))
      (pss_cons (ps_if (pt_cmpR op_eq (pv 3) pe_int (nomark _)) 
        (pss_one (ps_ret (pe_callTy (LX.call_list_str rfl) (by rfl) T.m_list PyProof.Rows.boot_list (pa_cons (pv 1) pa_nil)))
        )
       pss_nil)
      (pss_cons (ps_if (pt_cmpR op_eq (pv 3) pe_int (nomark _)) 
        (pss_one (ps_ret (pe_lc (own := [("sign", 6)]) rfl sc_images.nd (pi_str (pv 1)) (blkOk_by (N := n_images) (sc := fnScope s_images) (by decide +kernel)) (fun _ _ _ _ _ => (pg_name (i := 6) sc_images.nd rfl (.inl rfl))) (fun _ _ _ _ _ => pts_nil) (fun _ _ _ _ _ => pe_str)))
        )
       pss_nil)
      (pss_cons (ps_set (i := 4) sc_images.nd rfl (.inl rfl) (pe_ifExp (pt_cmpR op_eq (pv 3) pe_int (nomark _)) pe_int pe_int))
      (pss_cons (ps_set (i := 5) sc_images.nd rfl (.inl rfl) (pe_lst pa_nil))
      (pss_cons (ps_for PassesOwn.never rfl (pi_str (pv 1)) (pg_name (i := 6) sc_images.nd rfl (.inl rfl)) 
        (pss_one (ps_expr (pe_bm PySem.F.plainAttrs_list PySem.F.slot_list_append PySem.F.type_list_append mt_append (pv 5) (pa_cons (pe_op op_add_str (pe_op op_mul_si (pe_c c_one_of hr (by first | decide | omega) (by rfl) (pa_cons (pv 0) (pa_cons (pe_callTy (LX.call_list_str rfl) (by rfl) T.m_list PyProof.Rows.boot_list (pa_cons (pv 1) pa_nil)) pa_nil))) (pv 4)) (pe_c c_row hr (by first | decide | omega) (by rfl) (pa_cons (pv 0) (pa_cons (pv 1) (pa_cons (pe_op op_sub (pv 2) (pv 4)) pa_nil))))) pa_nil)))
        ))
      (pss_one (ps_ret (pv 5))
      ))))))), ?_⟩
    walk_at "s"
    refine ⟨b, 8, rfl, hb, by decide, by decide, fun d H1 d0 d1 hB => ?_⟩
    have hlen := menu_len hm
    walk_at "s"
    refine ⟨rfl, _, rfl, ite2 (fun e => ?_) (fun ne0 => ?_)⟩
    · walk_at "s"
      refine ⟨Nat.le_trans hlen.2 (by decide), fun p hp => ?_⟩
      refine k p (sg.map fun c => [c]) _ (ims_self m1) (hB.put hb (hB.free hp)) (hB.free hp) ?_
      rw [upd_same]; unfold txs; rw [List.map_map]; rfl
    walk_at "s"
    refine ⟨rfl, _, rfl, ite2 (fun e => ?_) (fun ne1 => ?_)⟩
    · walk_at "s"
      refine fun D hD => lc_keep (keep_bk hB.2) walk_str hD (by show sg.length < sizeLine; exact small1000 (by omega)) (fun _ y => y = .str (S [])) (fun _ _ => trivial) (fun i x H2 H3 R hi r hy hR => ?_) (fun ys H2 hl hg r hDs => ?_)
      · obtain ⟨rfl, c, hc, rfl⟩ := hy
        exact ⟨rfl, hR _ _ (bk_same (Same.refl _) r.2) (by rw [s_nil])⟩
      · refine k D (sg.map fun _ => []) H2 ims_void (hB.trans r) (hB.free hD) ?_
        rw [hDs]
        have : ys = txs (sg.map fun _ => []) := by
          unfold txs; rw [List.map_map]
          exact list_map (f := fun _ => V.str (S [])) hl fun j y x e1 _ => hg j y e1
        rw [this]
    walk_at "s"
    refine ⟨rfl, _, rfl, ite_ii (F := fun v => tC v _ _ _) fun z hz => ?_⟩
    have z01 : z = 0 ∨ z = 1 := hz
    refine ⟨by decide, fun p hp => ?_⟩
    have hpb : p ≠ b := box_ne hB.2 hp
    have hB2 : Bx b H (upd H1 p (.lst [])) := hB.put hb (hB.free hp)
    refine ⟨_, rfl, _, rfl, for_it walk_str (fun i σ H' => ∃ (acc : List (List Nat)) (sv : Option V), acc.length = i ∧ (∀ l ∈ acc, Ov sg l ∧ l.length ≤ m) ∧ σ = [some (.ref b), some (.str (S sg)), some (.int m), some (.int d), some (.int z), some (.ref p), sv] ∧ H' p = some (.lst (txs acc)) ∧ Bx b H H')
      ⟨[], none, rfl, (fun _ h => nomatch h), rfl, upd_same, hB2⟩ (fun _ _ _ _ _ => trivial) ?_ ?_⟩
    · rintro i x σ H2 H3 hi ⟨acc, sv, hl, hg, rfl, hp2, hB3⟩ ⟨rfl, c, hc, rfl⟩
      refine ⟨_, rfl, .inl ⟨rfl, _, SqL.of hp2⟩, ?_⟩
      walk_at "s"
      refine ⟨Nat.le_trans hlen.2 (by decide), fun q hq => ?_⟩
      have hq3 : Bx b H3 (upd H3 q (.lst (sg.map fun c => V.str (S [c])))) := Bx.put (bk_same (Same.refl H3) hB3.2) hB3.2 hq
      refine ⟨b, q, _, rfl, hq3.2, box_ne hB3.2 hq, SqL.of upd_same, by simpa using hlen.1, by simp; omega, fun v H4 hv hB4 => ?_⟩
      obtain ⟨e, he, rfl⟩ := List.mem_map.mp hv
      walk_at "s"
      refine ⟨z01, ?_⟩
      walk_at "s"
      have hB5 : Bx b H3 H4 := hq3.trans hB4
      refine ⟨b, sg, m - z.toNat, by show [V.ref b, V.str (S sg), V.int ((m : Int) - z)] = _; rw [show ((m : Int) - z) = ((m - z.toNat : Nat) : Int) by omega], hm, by omega, hB5.2, fun l H5 ho hl5 hB6 => ?_⟩
      have ef : (if z = 0 then S [] else S [e]) = S (if z = 0 then [] else [e]) := by split <;> rfl
      have lf : (if z = 0 then ([] : List Nat) else [e]).length = z.toNat := by rcases z01 with rfl | rfl <;> rfl
      refine ⟨_, _, rfl, rfl, ?_, ?_⟩
      · rw [ef, S_len, S_len, lf]; exact Nat.le_trans (show z.toNat + l.length ≤ 1000 by omega) (by decide)
      have hB7 : Bx b H3 H5 := hB5.trans hB6
      refine ⟨p, _, _, rfl, rfl, hB7.1 _ _ hpb hp2, ?_, ?_⟩
      · rw [txs_len]; have : acc.length < sg.length := by rw [hl]; exact hi
        exact small1000 (by omega)
      have hp5 : H5 p = some (.lst (txs acc)) := hB7.1 _ _ hpb hp2
      refine ⟨acc ++ [(if z = 0 then [] else [e]) ++ l], _, by simp [hl], fun r hr => ?_, rfl, ?_, ?_⟩
      · rcases List.mem_append.mp hr with h | h
        · exact hg r h
        · rw [List.mem_singleton.mp h]
          refine ⟨fun x hx => ?_, by rw [List.length_append, lf]; omega⟩
          rcases List.mem_append.mp hx with h | h
          · rcases z01 with rfl | rfl
            · simp at h
            · simp at h; rw [h]; exact he
          · exact ho x h
      · rw [upd_same, ef, S_cat]; unfold txs; rw [List.map_append]; rfl
      · exact ⟨fun a o n e' => by
          by_cases hap : a = p
          · exfalso; have := hB.free hp; rw [← hap, e'] at this; cases this
          · rw [upd_ne hap]; exact hB7.1 a o n (hB3.1 a o n e'), by
          obtain ⟨o, eo, po⟩ := hB7.2
          exact ⟨o, by rw [upd_ne hpb.symm]; exact eo, po⟩⟩
    · rintro σ H2 ⟨acc, sv, hl, hg, rfl, hp2, hB3⟩
      walk_at "s"
      exact k p acc H2 ⟨hl, hg⟩ hB3 (hB.free hp) hp2
theorem img_get {sg : List Nat} {ims : List (List Nat)} {c : Nat} (hl : ims.length = sg.length) (hc : c ∈ sg) : ims[sg.idxOf c]? = some (img sg ims c) := by
  have h := List.idxOf_lt_length_of_mem hc
  unfold img
  rw [List.getD_eq_getElem?_getD, List.getElem?_eq_getElem (by omega)]
  rfl
theorem img_mem {sg : List Nat} {ims : List (List Nat)} {c : Nat} (hl : ims.length = sg.length) (hc : c ∈ sg) : img sg ims c ∈ ims := List.mem_of_getElem? (img_get hl hc)
theorem app_flat (sg : List Nat) (ims : List (List Nat)) (l : List Nat) : app sg ims l = (l.map (img sg ims)).flatten := List.flatMap_def ..
theorem sum_le {m : Nat} : ∀ {ys : List (List Nat)}, (∀ l ∈ ys, l.length ≤ m) → ((ys.map S).map (·.length)).sum ≤ ys.length * m
  | [], _ => by simp
  | y :: ys, h => by
    have ih := sum_le (m := m) (ys := ys) fun l hl => h l (List.mem_cons_of_mem _ hl)
    have h0 := h y List.mem_cons_self
    simp only [List.map_cons, List.sum_cons, List.length_cons]
    rw [S_len, Nat.add_mul]
    omega
theorem join_ok {m n : Nat} {ys : List (List Nat)} (h : ∀ l ∈ ys, l.length ≤ m) (hn : ys.length ≤ n) (hm : n * m ≤ 16000000) : ((ys.map S).map (·.length)).sum + (ys.map S).length * (Str.ofString "").length ≤ 16777216 := by
  rw [s_nil, S_len]
  have := sum_le h
  have h2 : ys.length * m ≤ n * m := Nat.mul_le_mul_right _ hn
  simp only [List.length_nil, Nat.mul_zero, Nat.add_zero]
  omega
abbrev s_image : Stmt := top 20
abbrev n_image : List Str := ["signs", "images", "row", "sign"]
theorem sc_image : FnScope n_image ["signs", "images", "row"] (fnScope s_image) := fnScope_by (by decide +kernel)
def spImage : PySem.W.Frag → Sp := fun K vs H Q _ => ∃ (sg : List Nat) (p : Addr) (ims : List (List Nat)) (l : List Nat), vs = [.str (S sg), .ref p, .str (S l)] ∧ SqL K H p (txs ims) ∧ Ims sg ims 1000 ∧ Ov sg l ∧ l.length ≤ 1000 ∧
  ∀ H', Same H H' → Q (.str (S (app sg ims l))) H'
theorem ok_image (T : BT mg) {f : Addr} {fd : FuncData} (F : Def K mg "_law_image" s_image f fd) (b : Binds K fd ["signs", "images", "row"] []) : Cal P w K mg base 1 "_law_image" (spImage K) [] := by
  refine cal0 F b .nil sc_image (fun vs H Q E h => ?_) (fun cdv A outer s H vs Q E hr h => ?_)
  · obtain ⟨sg, p, ims, l, rfl, _⟩ := h; rfl
  · obtain ⟨sg, p, ims, l, rfl, hp, hi, ho, hl, k⟩ := h
    refine ⟨_, (pss_one (ps_ret (pe_join pe_str (pe_lc (own := [("sign", 3)]) rfl sc_image.nd (pi_str (pv 2)) (blkOk_by (N := n_image) (sc := fnScope s_image) (by decide +kernel)) (fun _ _ _ _ _ => (pg_name (i := 3) sc_image.nd rfl (.inl rfl))) (fun _ _ _ _ _ => pts_nil) (fun _ _ _ _ _ => (pe_ix (ixl K) (pv 1) (pe_m1 PySem.F.slot_str_index PySem.F.type_str_index mt_sindex (pv 0) (pv 3)) (fun _ _ => rfl))))))
      ), ?_⟩
    refine ⟨⟨_, rfl⟩, ?_⟩
    walk_at "s"
    refine fun D hD => lc_keep keep_same walk_str hD (by show l.length < sizeLine; exact small1000 hl) (fun j y => ∀ c, l[j]? = some c → y = .str (S (img sg ims c))) (fun _ _ => trivial) (fun i x H2 H3 R hii r hy hR => ?_) (fun ys H2 hly hg r hDs => ?_)
    · obtain ⟨rfl, c, hc, rfl⟩ := hy
      have hc' : l[i]? = some c := by simpa [S] using hc
      have hcs : c ∈ sg := ho c (List.mem_of_getElem? hc')
      obtain ⟨rest, hocc⟩ := occ_idx hcs
      refine ⟨rfl, ?_⟩
      walk_at "s"
      refine ⟨⟨_, rfl⟩, _, rfl, _, _, _, rest, rfl, rfl, hocc, ?_⟩
      refine ⟨_, _, _, .str (S (img sg ims c)), rfl, rfl, r.seq hp, at_of rfl ?_, hR _ _ (Same.refl _) fun d hd => ?_⟩
      · unfold txs; rw [List.getElem?_map, img_get hi.1 hcs]; rfl
      · rw [hc'] at hd; rw [Option.some.inj hd]
    · have e : ys = txs (l.map (img sg ims)) := by
        unfold txs; rw [List.map_map]
        exact list_map hly fun j y c e1 e2 => hg j y e1 c e2
      subst e
      refine ⟨_, D, (l.map (img sg ims)).map S, rfl, rfl, .inl (SqL.of (by rw [List.map_map]; exact hDs)), join_ok (m := 1000) (n := 1000) (fun z hz => ?_) (by simpa using hl) (by decide), ?_⟩
      · obtain ⟨c, hc, rfl⟩ := List.mem_map.mp hz
        exact (hi.2 _ (img_mem hi.1 (ho c hc))).2
      · show Q (.str (Txt.join (Str.ofString "") ((l.map (img sg ims)).map S))) H2
        rw [s_nil, join_txs, ← app_flat]
        exact k H2 r
def chF (sg : List Nat) (r : Addr) : List (Str × V) := [("signs", .str (S sg)), ("rows", .ref r)]
def Chg (C : Addr) (H : Hp) (a : Addr) (sg : List Nat) (ims : List (List Nat)) : Prop := ∃ dx r : Addr, H a = some (.ins C dx (chF sg r)) ∧ H r = some (.tup (txs ims))
theorem Chg.same {C a : Addr} {H H' : Hp} {sg : List Nat} {ims : List (List Nat)} (s : Same H H') (h : Chg C H a sg ims) : Chg C H' a sg ims := let ⟨dx, r, h1, h2⟩ := h; ⟨dx, r, s _ _ h1, s _ _ h2⟩
theorem n_sr : ¬ (("signs" : Str) = "rows") := by decide +kernel
theorem chF_signs (sg : List Nat) (r : Addr) : (chF sg r).lookup ("signs" : Str) = some (.str (S sg)) := by
  unfold chF; rw [List.lookup_cons_self]
theorem chF_rows (sg : List Nat) (r : Addr) : (chF sg r).lookup ("rows" : Str) = some (.ref r) := by
  have e : (("rows" : Str) == ("signs" : Str)) = false := by decide +kernel
  unfold chF; rw [List.lookup_cons, e, List.lookup_cons_self]
theorem chF_no (sg : List Nat) (r : Addr) {m : Str} (h1 : (m == ("signs" : Str)) = false) (h2 : (m == ("rows" : Str)) = false) : (chF sg r).lookup m = none := by
  unfold chF; rw [List.lookup_cons, h1, List.lookup_cons, h2]; rfl
structure CC (K : PySem.W.Frag) (C : Addr) : Prop where
  cl : Cls K C
  nS : NoAttr K C "signs"
  nR : NoAttr K C "rows"
abbrev s_of : Stmt := inClass (top 12) 4
abbrev n_of : List Str := ["self", "row", "sign"]
theorem sc_of : FnScope n_of ["self", "row"] (fnScope s_of) := fnScope_by (by decide +kernel)
def spOf (C : Addr) : Sp := fun vs H Q _ => ∃ (a : Addr) (sg : List Nat) (ims : List (List Nat)) (l : List Nat), vs = [.ref a, .str (S l)] ∧ Chg C H a sg ims ∧ Ims sg ims 1000 ∧ Ov sg l ∧ l.length ≤ 1000 ∧
  ∀ H', Same H H' → Q (.str (S (app sg ims l))) H'
theorem ok_of {C : Addr} (T : BT mg) (CH : CC K C) {f : Addr} {fd : FuncData} (me : Meth K C "of" f) (F : C8.Fun K "of" "Change.of" s_of f fd) (b : Binds K fd ["self", "row"] []) : Met P w K mg base 1 C "of" (spOf C) [] := by
  refine met0 CH.cl me F b sc_of (fun vs H Q E h => ?_) (fun cdv A outer s H vs Q E hr h => ?_)
  · obtain ⟨a, sg, ims, l, rfl, _⟩ := h; rfl
  · obtain ⟨a, sg, ims, l, rfl, ⟨dx, r, ha, hrr⟩, hi, ho, hl, k⟩ := h
    refine ⟨_, (pss_one (ps_ret (pe_join pe_str (pe_lc (own := [("sign", 2)]) rfl sc_of.nd (pi_str (pv 1)) (blkOk_by (N := n_of) (sc := fnScope s_of) (by decide +kernel)) (fun _ _ _ _ _ => (pg_name (i := 2) sc_of.nd rfl (.inl rfl))) (fun _ _ _ _ _ => pts_nil) (fun _ _ _ _ _ => (pe_ix (ixt K) (fldK K (pv 0) rfl) (pe_m1 PySem.F.slot_str_index PySem.F.type_str_index mt_sindex (fldK K (pv 0) rfl) (pv 2)) (fun _ _ => rfl))))))
      ), ?_⟩
    refine ⟨⟨_, rfl⟩, ?_⟩
    walk_at "s"
    refine fun D hD => lc_keep keep_same walk_str hD (by show l.length < sizeLine; exact small1000 hl) (fun j y => ∀ c, l[j]? = some c → y = .str (S (img sg ims c))) (fun _ _ => trivial) (fun i x H2 H3 R hii r1 hy hR => ?_) (fun ys H2 hly hg r1 hDs => ?_)
    · obtain ⟨rfl, c, hc, rfl⟩ := hy
      have hc' : l[i]? = some c := by simpa [S] using hc
      have hcs : c ∈ sg := ho c (List.mem_of_getElem? hc')
      obtain ⟨rest, hocc⟩ := occ_idx hcs
      refine ⟨rfl, ?_⟩
      refine ⟨_, rfl, a, C, dx, _, _, rfl, r1 _ _ ha, CH.cl, CH.nR, chF_rows _ _, ?_⟩
      refine ⟨_, rfl, a, C, dx, _, _, rfl, r1 _ _ ha, CH.cl, CH.nS, chF_signs _ _, ?_⟩
      refine ⟨⟨_, rfl⟩, _, rfl, _, _, _, rest, rfl, rfl, hocc, ?_⟩
      refine ⟨_, _, _, .str (S (img sg ims c)), rfl, rfl, .inl (.inl (r1 _ _ hrr)), at_of rfl ?_, hR _ _ (Same.refl _) fun d hd => ?_⟩
      · unfold txs; rw [List.getElem?_map, img_get hi.1 hcs]; rfl
      · rw [hc'] at hd; rw [Option.some.inj hd]
    · have e : ys = txs (l.map (img sg ims)) := by
        unfold txs; rw [List.map_map]
        exact list_map hly fun j y c e1 e2 => hg j y e1 c e2
      subst e
      refine ⟨_, D, (l.map (img sg ims)).map S, rfl, rfl, .inl (SqL.of (by rw [List.map_map]; exact hDs)), join_ok (m := 1000) (n := 1000) (fun z hz => ?_) (by simpa using hl) (by decide), ?_⟩
      · obtain ⟨c, hc, rfl⟩ := List.mem_map.mp hz
        exact (hi.2 _ (img_mem hi.1 (ho c hc))).2
      · show Q (.str (Txt.join (Str.ofString "") ((l.map (img sg ims)).map S))) H2
        rw [s_nil, join_txs, ← app_flat]
        exact k H2 r1
abbrev s_isseq : Stmt := top 6
abbrev n_isseq : List Str := ["value"]
theorem sc_isseq : FnScope n_isseq ["value"] (fnScope s_isseq) := fnScope_by (by decide +kernel)
def spIsSeq : Sp := fun vs H Q _ => ∃ (p : Addr) (xs : List V), vs = [.ref p] ∧ H p = some (.lst xs) ∧ ∀ H', Same H H' → Q (.bl true) H'
theorem ok_isseq (T : BT mg) {f : Addr} {fd : FuncData} (F : Def K mg "is_sequence" s_isseq f fd) (b : Binds K fd ["value"] []) : Cal P w K mg base 1 "is_sequence" spIsSeq [] := by
  refine cal0 F b .nil sc_isseq (fun vs H Q E h => ?_) (fun cdv A outer s H vs Q E hr h => ?_)
  · obtain ⟨p, xs, rfl, _⟩ := h; rfl
  · obtain ⟨p, xs, rfl, hp, k⟩ := h
    refine ⟨_, (pss_one (ps_ret (pe_callB (isiTK K) (by rfl) T.m_isinstance PyProof.Rows.boot_isinstance (pa_cons (pv 0) (pa_cons (pe_tup (pa_cons (pe_bltn (v := .ty "list") (by rfl) T.m_list PyProof.Rows.boot_list rfl) (pa_cons (pe_bltn (v := .ty "tuple") (by rfl) T.m_tuple PyProof.Rows.boot_tuple rfl) pa_nil))) pa_nil))))
      ), ?_⟩
    walk_at "s"
    refine ⟨by decide, fun t ht => ?_⟩
    refine ⟨_, t, _, _, _, true, rfl, upd_same, .cons (.ty _) (.cons (.ty _) .nil), .base (.lst ((sm_new ht) _ _ hp)), kitAny_cons (b := true) (kit_ty (by decide +kernel)) (fun h => nomatch h) (fun _ => rfl), k _ (sm_new ht)⟩
theorem all_true : ∀ {ys : List V}, (∀ (j : Nat) y, ys[j]? = some y → y = .bl true) → ys = (List.replicate ys.length true).map V.bl
  | [], _ => rfl
  | y :: ys, h => by
    rw [List.length_cons, List.replicate_succ, List.map_cons, ← all_true (ys := ys) fun j z e => h (j + 1) z e, h 0 y rfl]
theorem iteB {c : Bool} {A B : Prop} (hc : c = true) (h : A) : if c = true then A else B := by rw [if_pos hc]; exact h
theorem iteN {c : Bool} {A B : Prop} (hc : c = false) (h : B) : if c = true then A else B := by rw [hc]; exact iteF h
theorem rep_all (n : Nat) : (List.replicate n true).all id = true := by simp
abbrev s_isrow : Stmt := top 9
abbrev n_isrow : List Str := ["value", "signs"]
theorem sc_isrow : FnScope n_isrow ["value", "signs"] (fnScope s_isrow) := fnScope_by (by decide +kernel)
def spIsRow : Sp := fun vs H Q _ => ∃ (sg l : List Nat), vs = [.str (S l), .str (S sg)] ∧ Ov sg l ∧ l.length ≤ 1000 ∧ ∀ H', Same H H' → Q (.bl true) H'
theorem ok_isrow (T : BT mg) {f : Addr} {fd : FuncData} (F : Def K mg "is_row" s_isrow f fd) (b : Binds K fd ["value", "signs"] []) : Cal P w K mg base 1 "is_row" spIsRow [] := by
  refine cal0 F b .nil sc_isrow (fun vs H Q E h => ?_) (fun cdv A outer s H vs Q E hr h => ?_)
  · obtain ⟨sg, l, rfl, _⟩ := h; rfl
  · obtain ⟨sg, l, rfl, ho, hl, k⟩ := h
    refine ⟨_, (pss_one (ps_ret (pe_and (pe_callB (isiK K) (by rfl) T.m_isinstance PyProof.Rows.boot_isinstance (pa_cons (pv 0) (pa_cons (pe_bltn (v := .ty "str") (by rfl) T.m_str PyProof.Rows.boot_str rfl) pa_nil))) (pe_one (pe_cmpR op_eq (pe_bm PySem.F.plainAttrs_str PySem.F.slot_str_strip PySem.F.type_str_strip mt_stripChars (pv 0) (pa_cons (pv 1) pa_nil)) pe_str (nomark _)))))
      ), ?_⟩
    walk_at "s"
    refine ⟨_, _, _, _, true, rfl, .ty _, .base (.str _), kit_ty (by decide +kernel), true, rfl, ?_⟩
    refine iteT ?_
    refine ⟨_, rfl, rfl, _, rfl, S l, S sg, rfl, rfl, by rw [S_len]; exact Nat.le_of_lt (small1000 hl), rfl, ?_⟩
    have e : V.bl (decide (V.str (Txt.stripChars (S l) (S sg)) = V.str (Str.ofString ""))) = V.bl true := by
      rw [s_nil]
      refine congrArg V.bl (decide_eq_true ?_)
      rw [V.str.injEq]
      exact strip_nil.mpr ho
    show Q (V.bl (decide (V.str (Txt.stripChars (S l) (S sg)) = V.str (Str.ofString "")))) H
    rw [e]
    exact k H (Same.refl _)
abbrev s_isletters : Stmt := top 7
abbrev n_isletters : List Str := ["value"]
theorem sc_isletters : FnScope n_isletters ["value"] (fnScope s_isletters) := fnScope_by (by decide +kernel)
def spIsLetters : Sp := fun vs H Q _ => ∃ (l : List Nat), vs = [.str (S l)] ∧ (∀ c ∈ l, 97 ≤ c ∧ c ≤ 122) ∧ l.length ≤ 1000 ∧ ∀ H', Same H H' → Q (.bl true) H'
theorem ok_isletters (T : BT mg) {tz : Tok} (mgZ : mg "_LETTERS" = some (.str (S az) tz)) (c_isrow : Cal P w K mg base 1 "is_row" spIsRow []) {f : Addr} {fd : FuncData} (F : Def K mg "is_letters" s_isletters f fd) (b : Binds K fd ["value"] []) : Cal P w K mg base 2 "is_letters" spIsLetters [] := by
  refine cal0 F b .nil sc_isletters (fun vs H Q E h => ?_) (fun cdv A outer s H vs Q E hr h => ?_)
  · obtain ⟨l, rfl, _⟩ := h; rfl
  · obtain ⟨l, rfl, hc, hl, k⟩ := h
    refine ⟨_, (pss_one (ps_ret (pe_c c_isrow hr (by first | decide | omega) (by rfl) (pa_cons (pv 0) (pa_cons (pe_glob (v := .str (S az)) (by rfl) mgZ ⟨_, rfl⟩) pa_nil))))
      ), ?_⟩
    exact ⟨_, rfl, az, l, rfl, fun c h => az_mem.mpr (hc c h), hl, k⟩
abbrev s_issigns : Stmt := top 8
abbrev n_issigns : List Str := ["value", "one", "other"]
theorem sc_issigns : FnScope n_issigns ["value"] (fnScope s_issigns) := fnScope_by (by decide +kernel)
theorem menu_asc {sg : List Nat} (h : Menu sg) : ∀ (i c d : Nat), sg[i]? = some c → sg[i + 1]? = some d → c < d := by
  rcases menu_cases h with rfl | rfl | rfl | rfl <;> intro i c d e1 e2
  · rcases i with _ | _ | i <;> simp at e1 e2 <;> omega
  · rcases i with _ | i <;> simp at e1 e2
  · rcases i with _ | _ | _ | i <;> simp at e1 e2 <;> omega
  · rcases i with _ | _ | i <;> simp at e1 e2 <;> omega
def spIsSigns : Sp := fun vs H Q _ => ∃ (sg : List Nat), vs = [.str (S sg)] ∧ Menu sg ∧ ∀ H', Same H H' → Q (.bl true) H'
theorem ok_issigns (T : BT mg) (c_isletters : Cal P w K mg base 2 "is_letters" spIsLetters []) {f : Addr} {fd : FuncData} (F : Def K mg "is_signs" s_issigns f fd) (b : Binds K fd ["value"] []) : Cal P w K mg base 3 "is_signs" spIsSigns [] := by
  refine cal0 F b .nil sc_issigns (fun vs H Q E h => ?_) (fun cdv A outer s H vs Q E hr h => ?_)
  · obtain ⟨sg, rfl, _⟩ := h; rfl
  · obtain ⟨sg, rfl, hm, k⟩ := h
    have hlen := menu_len hm
    refine ⟨_, (pss_cons (ps_if (PW.pt (pw_or (pt_not (pt_val (pe_c c_isletters hr (by first | decide | omega) (by rfl) (pa_cons (pv 0) pa_nil)))) (pw_or (pt_cmpR op_lt (pe_callB call_len_str (by rfl) T.m_len PySem.boot_len (pa_cons (pv 0) pa_nil)) pe_int (nomark _)) (pw_or1 (pt_cmpR op_gt (pe_callB call_len_str (by rfl) T.m_len PySem.boot_len (pa_cons (pv 0) pa_nil)) pe_int (nomark _)))))) 
        (pss_one (ps_ret pe_bl)
        )
       pss_nil)
      (pss_one (ps_ret (pe_callB (cr_all rfl) (by rfl) T.m_all PyProof.Rows.boot_all (pa_cons (pe_lc (own := [("one", 1), ("other", 2)]) rfl sc_issigns.nd (pi_zipX (by rfl) T.m_zip (pa_cons (pv 0) (pa_cons (pe_slice sl_txt (pv 0) (po_some pe_int) po_none) pa_nil))) (blkOk_by (N := n_issigns) (sc := fnScope s_issigns) (by decide +kernel)) (fun _ _ _ _ _ => (tupK K 2 (pgs_cons (pg_name (i := 1) sc_issigns.nd rfl (.inl rfl)) (pgs_cons (pg_name (i := 2) sc_issigns.nd rfl (.inl rfl)) pgs_nil)))) (fun _ _ _ _ _ => pts_nil) (fun _ _ _ _ _ => (pe_cmpR op_lt_str (pv 1) (pv 2) (nomark _)))) pa_nil)))
      )), ?_⟩
    walk_at "s"
    refine ⟨menu_small hm, by omega, fun H1 hs1 => ?_⟩
    have hsl : (S sg).length ≤ sizeLine := by rw [S_len]; exact Nat.le_trans hlen.2 (by decide)
    walk_at "s"
    refine ⟨hsl, ?_⟩
    walk_at "s"
    refine iteN (by rw [S_len]; exact decide_eq_false (by omega)) ?_
    walk_at "s"
    refine ⟨hsl, ?_⟩
    walk_at "s"
    refine iteN (by rw [S_len]; exact decide_eq_false (by omega)) ?_
    walk_at "s"
    refine ⟨hsl, _, _, .txt (S sg), .txt (S (sg.drop 1)), rfl, rfl, slice_from (by decide), trivial, trivial, fun D hD => ?_⟩
    refine lc_keep (n := min (sg.map fun c => V.str (S [c])).length ((sg.drop 1).map fun c => V.str (S [c])).length) keep_same walk_zipX hD (by rw [List.length_map]; exact Nat.lt_of_le_of_lt (Nat.min_le_left _ _) (small1000 (Nat.le_trans hlen.2 (by decide)))) (fun _ y => y = .bl true) (fun _ _ => ⟨rfl, rfl⟩) (fun i x H2 H3 R hii r1 hy hR => ?_) (fun ys H2 hly hg r1 hDs => ?_)
    · obtain ⟨t, x1, x2, rfl, ht, rfl, e1, e2⟩ := hy
      have e1 : (sg.map fun c => V.str (S [c]))[i]? = some x1 := e1
      have e2 : ((sg.drop 1).map fun c => V.str (S [c]))[i]? = some x2 := e2
      rw [List.getElem?_map] at e1 e2
      rw [List.getElem?_drop] at e2
      cases q1 : sg[i]? with
      | none => rw [q1] at e1; cases e1
      | some c =>
        cases q2 : sg[1 + i]? with
        | none => rw [q2] at e2; cases e2
        | some d =>
          rw [q1] at e1; rw [q2] at e2
          cases e1; cases e2
          have hcd := menu_asc hm i c d q1 (by rw [Nat.add_comm]; exact q2)
          refine ⟨t, _, rfl, .inl (.inl upd_same), rfl, _, _, rfl, _, _, rfl, rfl, rfl, ?_⟩
          walk_at "s"
          refine hR _ _ (sm_new ht) (congrArg V.bl ?_)
          show decide (([c] : List Nat) < [d]) = true
          rw [decide_eq_true_eq, List.cons_lt_cons_iff]
          exact .inl hcd
    · refine ⟨D, List.replicate ys.length true, rfl, SqL.of (by rw [← all_true hg]; exact hDs), ?_⟩
      rw [rep_all]
      exact k H2 (hs1.trans r1)
end
end Toy
namespace Toy
open PySem L2 C8 SX LX
local macro_rules | `(tactic| walk_at "c") => `(tactic| refine And.intro (by first | (show (0 : Int) < _; omega) | exact Or.inr ⟨by decide, by decide⟩ | exact Or.inl ⟨by decide, by decide⟩ | (exact ⟨by omega, by omega⟩)) ?_)
local macro_rules | `(tactic| walk_at "s1") => `(tactic| first | refine ⟨_, rfl, ?_⟩ | refine ⟨_, _, rfl, rfl, ?_⟩ | refine .inl ⟨_, rfl, ?_⟩ | walk_at "c")
local macro_rules | `(tactic| walk_at "ix") => `(tactic| refine ⟨_, _, _, _, rfl, rfl, SqL.of (by first | assumption | exact upd_same), rfl, ?_⟩)
local macro_rules | `(tactic| walk_at "s") => `(tactic| repeat (walk_at "s1"))
section
variable {P : Program} {w : World} {K : PySem.W.Frag} {mg : Str → Option Value} {base : Heap}
abbrev s_isrows : Stmt := top 10
abbrev n_isrows : List Str := ["value", "signs", "row"]
theorem sc_isrows : FnScope n_isrows ["value", "signs"] (fnScope s_isrows) := fnScope_by (by decide +kernel)
def spIsRows : Sp := fun vs H Q _ => ∃ (sg : List Nat) (p : Addr) (ims : List (List Nat)), vs = [.ref p, .str (S sg)] ∧ H p = some (.lst (txs ims)) ∧ ims.length ≤ 1000 ∧ (∀ l ∈ ims, Ov sg l ∧ l.length ≤ 1000) ∧ ∀ H', Same H H' → Q (.bl true) H'
theorem ok_isrows (T : BT mg) (c_isseq : Cal P w K mg base 1 "is_sequence" spIsSeq []) (c_isrow : Cal P w K mg base 1 "is_row" spIsRow []) {f : Addr} {fd : FuncData} (F : Def K mg "is_rows" s_isrows f fd) (b : Binds K fd ["value", "signs"] []) : Cal P w K mg base 2 "is_rows" spIsRows [] := by
  refine cal0 F b .nil sc_isrows (fun vs H Q E h => ?_) (fun cdv A outer s H vs Q E hr h => ?_)
  · obtain ⟨sg, p, ims, rfl, _⟩ := h; rfl
  · obtain ⟨sg, p, ims, rfl, hp, hl, hi, k⟩ := h
    refine ⟨_, (pss_one (ps_ret (pe_and (pe_c c_isseq hr (by first | decide | omega) (by rfl) (pa_cons (pv 0) pa_nil)) (pe_one (pe_callB (cr_all rfl) (by rfl) T.m_all PyProof.Rows.boot_all (pa_cons (pe_lc (own := [("row", 2)]) rfl sc_isrows.nd (pi_list (pv 0)) (blkOk_by (N := n_isrows) (sc := fnScope s_isrows) (by decide +kernel)) (fun _ _ _ _ _ => (pg_name (i := 2) sc_isrows.nd rfl (.inl rfl))) (fun _ _ _ _ _ => pts_nil) (fun _ _ _ _ _ => (pe_c c_isrow hr (by first | decide | omega) (by rfl) (pa_cons (pv 2) (pa_cons (pv 1) pa_nil))))) pa_nil)))))
      ), ?_⟩
    walk_at "s"
    refine ⟨p, _, rfl, hp, fun H1 hs1 => ?_⟩
    walk_at "s"
    refine ⟨⟨_, SqL.of (hs1 _ _ hp)⟩, fun D hD => lc_keep keep_same (walk_list (K := K) (a := p) (xs := txs ims)) hD (by rw [txs_len]; exact small1000 hl) (fun _ y => y = .bl true) (fun H2 r => SqL.of (r _ _ (hs1 _ _ hp))) (fun i x H2 H3 R hii r1 hy hR => ?_) (fun ys H2 hly hg r1 hDs => ?_)⟩
    · obtain ⟨rfl, e⟩ := hy
      unfold txs at e
      rw [List.getElem?_map] at e
      cases q : ims[i]? with
      | none => rw [q] at e; cases e
      | some l =>
        rw [q] at e; cases e
        have hml := hi l (List.mem_of_getElem? q)
        refine ⟨rfl, ?_⟩
        walk_at "s"
        refine ⟨sg, l, rfl, hml.1, hml.2, fun H4 hs4 => hR _ _ hs4 rfl⟩
    · refine ⟨D, List.replicate ys.length true, rfl, SqL.of (by rw [← all_true hg]; exact hDs), ?_⟩
      rw [rep_all]
      exact k H2 (hs1.trans r1)
abbrev s_init : Stmt := inClass (top 12) 0
abbrev n_init : List Str := ["self", "signs", "rows"]
theorem sc_init : FnScope n_init ["self", "signs", "rows"] (fnScope s_init) := fnScope_by (by decide +kernel)
def spInit (C : Addr) : Sp := fun vs H Q _ => ∃ (a dx p : Addr) (sg : List Nat) (ims : List (List Nat)), vs = [.ref a, .str (S sg), .ref p] ∧ H a = some (.ins C dx []) ∧ H p = some (.lst (txs ims)) ∧ Menu sg ∧ Ims sg ims 1000 ∧
  ∀ H', (∀ b o, b ≠ a → H b = some o → H' b = some o) → Chg C H' a sg ims → Q .non H'
theorem ok_init {C : Addr} (T : BT mg) (CH : CC K C) (c_issigns : Cal P w K mg base 3 "is_signs" spIsSigns []) (c_isrows : Cal P w K mg base 2 "is_rows" spIsRows []) (M : Mk K C f) (hm : mg "Change" = some (.ref C)) {fd : FuncData} (F : C8.Fun K "__init__" "Change.__init__" s_init f fd) (b : Binds K fd ["self", "signs", "rows"] []) : Mak P w K mg base 4 "Change" C (spInit C) [] := by
  refine mak0 M hm F b .nil sc_init (fun vs H Q E h => ?_) (fun cdv A outer s H vs Q E hr h => ?_)
  · obtain ⟨a, dx, p, sg, ims, rfl, _⟩ := h; rfl
  · obtain ⟨a, dx, p, sg, ims, rfl, ha, hp, hmn, hi, k⟩ := h
    have hlen := menu_len hmn
    refine ⟨_, (pss_cons (ps_if (pt_not (pt_val (pe_c c_issigns hr (by first | decide | omega) (by rfl) (pa_cons (pv 1) pa_nil)))) 
        (pss_one ps_never
        )
       pss_nil)
      (pss_cons (ps_if (PW.pt (pw_or (pt_not (pt_val (pe_c c_isrows hr (by first | decide | omega) (by rfl) (pa_cons (pv 2) (pa_cons (pv 1) pa_nil))))) (pw_or1 (pt_cmpR op_ne (pe_callB (lenK K) (by rfl) T.m_len PySem.boot_len (pa_cons (pv 2) pa_nil)) (pe_callB call_len_str (by rfl) T.m_len PySem.boot_len (pa_cons (pv 1) pa_nil)) (nomark _))))) 
        (pss_one ps_never
        )
       pss_nil)
      (pss_cons (ps_fld (pv 0) (pv 1) rfl)
      (pss_one (ps_fld (pv 0) (pe_callTy (tupleK K) (by rfl) T.m_tuple PyProof.Rows.boot_tuple (pa_cons (pv 2) pa_nil)) rfl)
      )))), ?_⟩
    walk_at "s"
    refine ⟨hmn, fun H1 hs1 => ?_⟩
    walk_at "s"
    refine ⟨sg, p, ims, rfl, hs1 _ _ hp, by rw [hi.1]; omega, hi.2, fun H2 hs2 => ?_⟩
    have hp2 := hs2 _ _ (hs1 _ _ hp)
    walk_at "s"
    refine ⟨_, _, rfl, .inl (SqL.of hp2), ?_⟩
    walk_at "s"
    have ha2 := hs2 _ _ (hs1 _ _ ha)
    refine ⟨by rw [S_len]; exact Nat.le_trans hlen.2 (by decide), rfl, _, rfl, iteN ?_ ?_⟩
    · rw [txs_len, hi.1, S_len]; simp
    refine ⟨_, rfl, _, rfl, a, C, dx, [], rfl, ha2, CH.cl, CH.nS, (by show 0 < 1000; decide), ?_⟩
    have npa : p ≠ a := ne_of hp2 ha2 (by intro h; cases h)
    refine ⟨_, rfl, _, _, rfl, .inl ⟨SqL.of (by rw [upd_ne npa]; exact hp2), fun l hl => ?_⟩⟩
    have hl2 : H2 l = none := by
      by_cases e : l = a
      · rw [e, upd_same] at hl; cases hl
      · rw [upd_ne e] at hl; exact hl
    have nal : a ≠ l := ne_of_none ha2 hl2
    refine ⟨_, rfl, a, C, dx, _, rfl, (by rw [upd_ne nal, upd_same]), CH.cl, CH.nR, (by show 1 < 1000; decide), ?_⟩
    refine k _ (fun b o n e => ?_) ⟨dx, l, ?_, ?_⟩
    · rw [upd_ne n, upd_ne (ne_of_none (hs2 _ _ (hs1 _ _ e)) hl2), upd_ne n]
      exact hs2 _ _ (hs1 _ _ e)
    · rw [upd_same]
      have e : putF ("rows" : Str) (.ref l) (putF ("signs" : Str) (.str (S sg)) []) = chF sg l := by
        show (if ("signs" : Str) = "rows" then _ else (("signs" : Str), V.str (S sg)) :: putF ("rows" : Str) (.ref l) []) = _
        rw [if_neg n_sr]; rfl
      rw [e]
    · rw [upd_ne nal.symm, upd_same]
theorem make_use {C : Addr} {H : Hp} {R : VK} {sg : List Nat} {p : Addr} {ims : List (List Nat)} (hp : H p = some (.lst (txs ims))) (hm : Menu sg) (hi : Ims sg ims 1000) (k : ∀ (q : Addr) (H' : Hp), H q = none → Same H H' → Chg C H' q sg ims → R (.ref q) H') :
    ∀ x dx, H x = none → H dx = none → dx ≠ x → spInit C (.ref x :: ([.str (S sg), .ref p] ++ [])) (upd (upd H dx (.own x)) x (.ins C dx [])) (fun v H2 => v = .non ∧ R (.ref x) H2) C8.E0 := fun x dx nx nd ne => by
  have npx : p ≠ x := ne_of_none hp nx
  have npd : p ≠ dx := ne_of_none hp nd
  refine ⟨x, dx, p, sg, ims, rfl, upd_same, by rw [upd_ne npx, upd_ne npd]; exact hp, hm, hi, fun H' hk hc => ⟨rfl, k x H' nx (fun b o e => ?_) hc⟩⟩
  refine hk b o (ne_of_none e nx) ?_
  rw [upd_ne (ne_of_none e nx), upd_ne (ne_of_none e nd)]
  exact e
theorem Chg.rows {C a : Addr} {H : Hp} {sg : List Nat} {ims : List (List Nat)} (h : Chg C H a sg ims) : ∃ dx r : Addr, H a = some (.ins C dx (chF sg r)) ∧ H r = some (.tup (txs ims)) := h
theorem txs_get {ims : List (List Nat)} {i : Nat} {x : V} (h : (txs ims)[i]? = some x) : ∃ l, ims[i]? = some l ∧ x = .str (S l) := by
  unfold txs at h
  rw [List.getElem?_map] at h
  cases q : ims[i]? with
  | none => rw [q] at h; cases h
  | some l => rw [q] at h; exact ⟨l, rfl, (Option.some.inj h).symm⟩
theorem txs_of {ims : List (List Nat)} {f : List Nat → List Nat} {ys : List V} (hl : ys.length = (txs ims).length) (h : ∀ (j : Nat) y, ys[j]? = some y → ∀ l, ims[j]? = some l → y = .str (S (f l))) : ys = txs (ims.map f) := by
  have e : txs (ims.map f) = ims.map fun l => V.str (S (f l)) := by unfold txs; rw [List.map_map]; rfl
  rw [e]
  exact list_map (by rw [hl, txs_len]) fun j y l e1 e2 => h j y e1 l e2
abbrev s_turned : Stmt := inClass (top 12) 5
abbrev n_turned : List Str := ["self", "row"]
theorem sc_turned : FnScope n_turned ["self"] (fnScope s_turned) := fnScope_by (by decide +kernel)
def spTurned (C : Addr) : Sp := fun vs H Q _ => ∃ (a : Addr) (sg : List Nat) (ims : List (List Nat)), vs = [.ref a] ∧ Chg C H a sg ims ∧ Menu sg ∧ Ims sg ims 1000 ∧
  ∀ (q : Addr) (H' : Hp), Same H H' → Chg C H' q sg (ims.map List.reverse) → Q (.ref q) H'
theorem ims_rev {sg : List Nat} {ims : List (List Nat)} {m : Nat} (h : Ims sg ims m) : Ims sg (ims.map List.reverse) m := by
  refine ⟨by rw [List.length_map]; exact h.1, fun l hl => ?_⟩
  obtain ⟨r, hr, rfl⟩ := List.mem_map.mp hl
  exact ⟨fun c hc => (h.2 r hr).1 c (List.mem_reverse.mp hc), by rw [List.length_reverse]; exact (h.2 r hr).2⟩
theorem ok_turned {C : Addr} (T : BT mg) (CH : CC K C) (c_Change : Mak P w K mg base 4 "Change" C (spInit C) []) {f : Addr} {fd : FuncData} (me : Meth K C "turned" f) (F : C8.Fun K "turned" "Change.turned" s_turned f fd) (b : Binds K fd ["self"] []) : Met P w K mg base 6 C "turned" (spTurned C) [] := by
  refine met0 CH.cl me F b sc_turned (fun vs H Q E h => ?_) (fun cdv A outer s H vs Q E hr h => ?_)
  · obtain ⟨a, sg, ims, rfl, _⟩ := h; rfl
  · obtain ⟨a, sg, ims, rfl, hc, hm, hi, k⟩ := h
    obtain ⟨dx, r, ha, hrr⟩ := id hc
    have hlen := menu_len hm
    refine ⟨_, (pss_one (ps_ret (pe_mk c_Change hr (by decide) (by rfl) (pa_cons (fldK K (pv 0) rfl) (pa_cons (pe_lc (own := [("row", 1)]) rfl sc_turned.nd (pi_tup (fldK K (pv 0) rfl)) (blkOk_by (N := n_turned) (sc := fnScope s_turned) (by decide +kernel)) (fun _ _ _ _ _ => (pg_name (i := 1) sc_turned.nd rfl (.inl rfl))) (fun _ _ _ _ _ => pts_nil) (fun _ _ _ _ _ => (pe_revS (pv 1) (pe_un un_neg pe_int)))) pa_nil))))
      ), ?_⟩
    refine ⟨_, rfl, a, C, dx, _, _, rfl, ha, CH.cl, CH.nS, chF_signs _ _, ?_⟩
    refine ⟨_, rfl, a, C, dx, _, _, rfl, ha, CH.cl, CH.nR, chF_rows _ _, ?_⟩
    refine ⟨_, rfl, ⟨_, .inl (.inl hrr)⟩, fun D hD => lc_keep keep_same (walk_tup (K := K) (a := r) (xs := txs ims)) hD (by rw [txs_len, hi.1]; exact small1000 (by omega)) (fun j y => ∀ l, ims[j]? = some l → y = .str (S l.reverse)) (fun H2 r1 => .inl (.inl (r1 _ _ hrr))) (fun i x H2 H3 R hii r1 hy hR => ?_) (fun ys H2 hly hg r1 hDs => ?_)⟩
    · obtain ⟨rfl, e⟩ := hy
      obtain ⟨l, el, rfl⟩ := txs_get e
      refine ⟨rfl, ?_⟩
      walk_at "s"
      exact ⟨rfl, l, rfl, Nat.le_trans (hi.2 l (List.mem_of_getElem? el)).2 (by decide), hR _ _ (Same.refl _) fun l' h => by rw [el] at h; rw [Option.some.inj h]⟩
    · have e := txs_of (f := List.reverse) hly hg
      subst e
      exact make_use hDs hm (ims_rev hi) fun q H' _ s2 c2 => k q H' (r1.trans s2) c2
theorem app_ov {sg l : List Nat} {ims : List (List Nat)} {m : Nat} (hi : Ims sg ims m) (ho : Ov sg l) : Ov sg (app sg ims l) := fun c hc => by
  obtain ⟨d, hd, hcd⟩ := List.mem_flatMap.mp hc
  exact (hi.2 _ (img_mem hi.1 (ho d hd))).1 c hcd
theorem app_len {sg : List Nat} {ims : List (List Nat)} {m : Nat} (hi : Ims sg ims m) : ∀ {l : List Nat}, Ov sg l → (app sg ims l).length ≤ l.length * m
  | [], _ => Nat.zero_le _
  | c :: l, ho => by
    have ih := app_len hi (l := l) fun d hd => ho d (List.mem_cons_of_mem _ hd)
    have h1 := (hi.2 _ (img_mem hi.1 (ho c List.mem_cons_self))).2
    have e : app sg ims (c :: l) = img sg ims c ++ app sg ims l := List.flatMap_cons ..
    rw [e, List.length_append, List.length_cons, Nat.add_mul]
    omega
theorem ims_mul {sg : List Nat} {ims jms : List (List Nat)} {m n : Nat} (h1 : Ims sg ims m) (h2 : Ims sg jms n) : Ims sg (jms.map (app sg ims)) (n * m) := by
  refine ⟨by rw [List.length_map]; exact h2.1, fun l hl => ?_⟩
  obtain ⟨r, hr, rfl⟩ := List.mem_map.mp hl
  have := h2.2 r hr
  exact ⟨app_ov h1 this.1, Nat.le_trans (app_len h1 this.1) (Nat.mul_le_mul_right _ this.2)⟩
theorem Ims.mono {sg : List Nat} {ims : List (List Nat)} {m n : Nat} (h : Ims sg ims m) (hn : m ≤ n) : Ims sg ims n := ⟨h.1, fun l hl => ⟨(h.2 l hl).1, Nat.le_trans (h.2 l hl).2 hn⟩⟩
abbrev s_mul : Stmt := inClass (top 12) 6
abbrev n_mul : List Str := ["self", "other", "row"]
theorem sc_mul : FnScope n_mul ["self", "other"] (fnScope s_mul) := fnScope_by (by decide +kernel)
def spMul (C : Addr) : Sp := fun vs H Q _ => ∃ (a b : Addr) (sg : List Nat) (ims jms : List (List Nat)), vs = [.ref a, .ref b] ∧ Chg C H a sg ims ∧ Chg C H b sg jms ∧ Menu sg ∧ Ims sg ims 30 ∧ Ims sg jms 30 ∧
  ∀ (q : Addr) (H' : Hp), Same H H' → Chg C H' q sg (jms.map (app sg ims)) → Q (.ref q) H'
theorem ok_mul {C : Addr} (T : BT mg) (CH : CC K C) (insC : InsC K C) (mgC : mg "Change" = some (.ref C)) (c_of : Met P w K mg base 1 C "of" (spOf C) []) (c_Change : Mak P w K mg base 4 "Change" C (spInit C) []) {f : Addr} {fd : FuncData} (me : Meth K C "__mul__" f) (F : C8.Fun K "__mul__" "Change.__mul__" s_mul f fd) (b : Binds K fd ["self", "other"] []) : Met P w K mg base 6 C "__mul__" (spMul C) [] := by
  refine met0 CH.cl me F b sc_mul (fun vs H Q E h => ?_) (fun cdv A outer s H vs Q E hr h => ?_)
  · obtain ⟨a, b, sg, ims, jms, rfl, _⟩ := h; rfl
  · obtain ⟨a, b, sg, ims, jms, rfl, hca, hcb, hm, hi, hj, k⟩ := h
    obtain ⟨dx, r, ha, hrr⟩ := id hca
    obtain ⟨dy, t, hb, htt⟩ := id hcb
    have hlen := menu_len hm
    refine ⟨_, (pss_cons (ps_if (pt_not (pt_val (pe_callB (call_isC insC) (by rfl) T.m_isinstance PyProof.Rows.boot_isinstance (pa_cons (pv 1) (pa_cons (pe_glob (v := .ref C) (by rfl) mgC rfl) pa_nil))))) 
        (pss_one ps_never
        )
       pss_nil)
      (pss_one (ps_ret (pe_mk c_Change hr (by decide) (by rfl) (pa_cons (fldK K (pv 0) rfl) (pa_cons (pe_lc (own := [("row", 2)]) rfl sc_mul.nd (pi_tup (fldK K (pv 1) rfl)) (blkOk_by (N := n_mul) (sc := fnScope s_mul) (by decide +kernel)) (fun _ _ _ _ _ => (pg_name (i := 2) sc_mul.nd rfl (.inl rfl))) (fun _ _ _ _ _ => pts_nil) (fun _ _ _ _ _ => (pe_mt c_of hr (by decide) (pv 0) (pa_cons (pv 2) pa_nil)))) pa_nil))))
      )), ?_⟩
    walk_at "s"
    refine ⟨b, dy, _, rfl, hb, ?_⟩
    walk_at "s"
    refine ⟨a, C, dx, _, _, rfl, ha, CH.cl, CH.nS, chF_signs _ _, ?_⟩
    refine ⟨_, rfl, b, C, dy, _, _, rfl, hb, CH.cl, CH.nR, chF_rows _ _, ?_⟩
    refine ⟨_, rfl, ⟨_, .inl (.inl htt)⟩, fun D hD => lc_keep keep_same (walk_tup (K := K) (a := t) (xs := txs jms)) hD (by rw [txs_len, hj.1]; exact small1000 (by omega)) (fun j y => ∀ l, jms[j]? = some l → y = .str (S (app sg ims l))) (fun H2 r1 => .inl (.inl (r1 _ _ htt))) (fun i x H2 H3 R hii r1 hy hR => ?_) (fun ys H2 hly hg r1 hDs => ?_)⟩
    · obtain ⟨rfl, e⟩ := hy
      obtain ⟨l, el, rfl⟩ := txs_get e
      have hjl := hj.2 l (List.mem_of_getElem? el)
      refine ⟨rfl, ?_⟩
      walk_at "s"
      refine ⟨a, dx, _, rfl, r1 _ _ ha, chF_no _ _ (by decide +kernel) (by decide +kernel), _, rfl, ?_⟩
      exact ⟨a, sg, ims, l, rfl, hca.same r1, hi.mono (by decide), hjl.1, by omega, fun H4 s4 => hR _ _ s4 fun l' h => by rw [el] at h; rw [Option.some.inj h]⟩
    · have e := txs_of (f := app sg ims) hly hg
      subst e
      exact make_use hDs hm ((ims_mul hi hj).mono (by decide)) fun q H' _ s2 c2 => k q H' (r1.trans s2) c2
abbrev s_eq : Stmt := inClass (top 12) 7
abbrev n_eq : List Str := ["self", "other"]
theorem sc_eq : FnScope n_eq ["self", "other"] (fnScope s_eq) := fnScope_by (by decide +kernel)
def spEqC (C : Addr) : Sp := fun vs H Q _ => ∃ (a b : Addr) (sg : List Nat) (ims jms : List (List Nat)), vs = [.ref a, .ref b] ∧ Chg C H a sg ims ∧ Chg C H b sg jms ∧ Menu sg ∧ Ims sg ims 1000 ∧ Ims sg jms 1000 ∧
  ∀ H', Same H H' → Q (.bl (decide (ims = jms))) H'
theorem ims_small {sg : List Nat} {ims : List (List Nat)} {m : Nat} (hm : Menu sg) (h : Ims sg ims m) : Small ims := fun l hl c hc => by
  have := menu_small hm c ((h.2 l hl).1 c hc)
  omega
theorem ok_eq {C : Addr} (T : BT mg) (CH : CC K C) (insC : InsC K C) (mgC : mg "Change" = some (.ref C)) {f : Addr} {fd : FuncData} (me : Meth K C "__eq__" f) (F : C8.Fun K "__eq__" "Change.__eq__" s_eq f fd) (b : Binds K fd ["self", "other"] []) : Met P w K mg base 1 C "__eq__" (spEqC C) [] := by
  refine met0 CH.cl me F b sc_eq (fun vs H Q E h => ?_) (fun cdv A outer s H vs Q E hr h => ?_)
  · obtain ⟨a, b, sg, ims, jms, rfl, _⟩ := h; rfl
  · obtain ⟨a, b, sg, ims, jms, rfl, hca, hcb, hm, hi, hj, k⟩ := h
    obtain ⟨dx, r, ha, hrr⟩ := id hca
    obtain ⟨dy, t, hb, htt⟩ := id hcb
    refine ⟨_, (pss_one (ps_ret (pe_and (pe_callB (call_isC insC) (by rfl) T.m_isinstance PyProof.Rows.boot_isinstance (pa_cons (pv 1) (pa_cons (pe_glob (v := .ref C) (by rfl) mgC rfl) pa_nil))) (pe_and (pe_cmpR op_eq (fldK K (pv 0) rfl) (fldK K (pv 1) rfl) (nomark _)) (pe_one (pe_cmpR (op_eqSs hr) (fldK K (pv 0) rfl) (fldK K (pv 1) rfl) (nomark _))))))
      ), ?_⟩
    walk_at "s"
    refine ⟨b, dy, _, rfl, hb, _, rfl, ?_⟩
    refine iteT ?_
    refine ⟨_, rfl, a, C, dx, _, _, rfl, ha, CH.cl, CH.nS, chF_signs _ _, _, rfl, b, C, dy, _, _, rfl, hb, CH.cl, CH.nS, chF_signs _ _, ?_⟩
    refine ⟨rfl, _, rfl, ?_⟩
    refine iteB (decide_eq_true rfl) ?_
    refine ⟨_, rfl, a, C, dx, _, _, rfl, ha, CH.cl, CH.nR, chF_rows _ _, _, rfl, b, C, dy, _, _, rfl, hb, CH.cl, CH.nR, chF_rows _ _, ?_⟩
    exact ⟨r, t, ims, jms, rfl, rfl, .inr ⟨.inl (.inl hrr), .inl (.inl htt)⟩, ims_small hm hi, ims_small hm hj, k H (Same.refl H)⟩
end
end Toy
namespace Toy
open PySem L2 C8 SX LX
local macro_rules | `(tactic| walk_at "c") => `(tactic| refine And.intro (by first | (show (0 : Int) < _; omega) | exact Or.inr ⟨by decide, by decide⟩ | exact Or.inl ⟨by decide, by decide⟩ | (exact ⟨by omega, by omega⟩)) ?_)
local macro_rules | `(tactic| walk_at "s1") => `(tactic| first | refine ⟨_, rfl, ?_⟩ | refine ⟨_, _, rfl, rfl, ?_⟩ | refine .inl ⟨_, rfl, ?_⟩ | walk_at "c")
local macro_rules | `(tactic| walk_at "ix") => `(tactic| refine ⟨_, _, _, _, rfl, rfl, SqL.of (by first | assumption | exact upd_same), rfl, ?_⟩)
local macro_rules | `(tactic| walk_at "s") => `(tactic| repeat (walk_at "s1"))
section
variable {P : Program} {w : World} {K : PySem.W.Frag} {mg : Str → Option Value} {base : Heap}
abbrev s_seed : Stmt := top 14
abbrev n_seed : List Str := ["script", "k", "cell"]
theorem sc_seed : FnScope n_seed ["script", "k"] (fnScope s_seed) := fnScope_by (by decide +kernel)
def spSeed : PySem.W.Frag → Sp := fun K vs H Q _ => ∃ (a : Addr) (k : Nat) (ns : List Int), vs = [.ref a, .int k] ∧ SqL K H a (ns.map V.int) ∧ ns.length ≤ 63 ∧
  ∀ (p : Addr) (H' : Hp), Same H H' → H p = none → BoxAt p H' → Q (.ref p) H'
theorem int_at {ns : List Int} {i : Nat} (h : i < ns.length) : ∃ z : Int, (ns.map V.int)[i]? = some (.int z) := ⟨ns[i], by rw [List.getElem?_map, List.getElem?_eq_getElem h]; rfl⟩
theorem ok_seed (T : BT mg) {f : Addr} {fd : FuncData} (F : Def K mg "_law_seed" s_seed f fd) (b : Binds K fd ["script", "k"] []) : Cal P w K mg base 1 "_law_seed" (spSeed K) [] := by
  refine cal0 F b .nil sc_seed (fun vs H Q E h => ?_) (fun cdv A outer s H vs Q E hr h => ?_)
  · obtain ⟨a, k, ns, rfl, _⟩ := h; rfl
  · obtain ⟨a, k, ns, rfl, ha, hl, kk⟩ := h
    refine ⟨_, (pss_cons (ps_set (i := 2) sc_seed.nd rfl (.inl rfl) (pe_op op_add (pe_op op_mul pe_int (pv 1)) pe_int))
      (C8.pss_cut (ps_if (pt_cmpR op_lt (pv 1) (pe_callB (lenK K) (by rfl) T.m_len PySem.boot_len (pa_cons (pv 0) pa_nil)) (nomark _)) 
        (pss_one (ps_set (i := 2) sc_seed.nd rfl (.inl rfl) (pe_callB call_abs (by rfl) T.m_abs PyProof.Rows.boot_abs (pa_cons (pe_ix (ixl K) (pv 0) (pv 1) (fun _ _ => rfl)) pa_nil)))
        )
        (pss_one (ps_if (pt_cmpR op_gt (pe_callB (lenK K) (by rfl) T.m_len PySem.boot_len (pa_cons (pv 0) pa_nil)) pe_int (nomark _)) 
          (pss_one (ps_set (i := 2) sc_seed.nd rfl (.inl rfl) (pe_op op_add (pv 2) (pe_op op_mul (pe_op op_mod (pe_callTy call_int1 (by rfl) T.m_int PyProof.Rows.boot_int (pa_cons (pe_callB call_abs (by rfl) T.m_abs PyProof.Rows.boot_abs (pa_cons (pe_ix (ixl K) (pv 0) (pe_op op_mod (pe_callTy call_int1 (by rfl) T.m_int PyProof.Rows.boot_int (pa_cons (pv 1) pa_nil)) (pe_callB (lenK K) (by rfl) T.m_len PySem.boot_len (pa_cons (pv 0) pa_nil))) (fun _ _ => rfl)) pa_nil)) pa_nil)) pe_int) pe_int)))
          )
         pss_nil)
        ))
      (pss_one (ps_ret (pe_lst (pa_cons (pe_ifExp (pt_cmpR op_ge (pv 2) (pe_op op_pow pe_int pe_int) (nomark _)) (pv 2) pe_int) (pa_cons (pe_op op_add (pe_op op_mod (pe_callTy call_int1 (by rfl) T.m_int PyProof.Rows.boot_int (pa_cons (pe_op op_add (pe_op op_mul (pe_op op_mod (pe_callTy call_int1 (by rfl) T.m_int PyProof.Rows.boot_int (pa_cons (pv 2) pa_nil)) pe_int) pe_int) (pe_op op_mul pe_int (pv 1))) pa_nil)) pe_int) pe_int) (pa_cons pe_int pa_nil)))))
      ))), ?_⟩
    walk_at "s"
    refine ⟨fun σ H' => H' = H ∧ ∃ c : Int, σ = [some (.ref a), some (.int k), some (.int c)], ?_, ?_⟩
    · walk_at "s"
      refine ⟨_, _, rfl, .inl ha, ?_⟩
      walk_at "s"
      refine ite2 (fun hk => ?_) (fun hk => ?_)
      · rw [List.length_map, decide_eq_true_eq] at hk
        obtain ⟨z, hz⟩ := int_at (ns := ns) (i := k) (by omega)
        walk_at "s"
        refine ⟨_, _, _, .int z, rfl, rfl, ha, at_of rfl hz, ?_⟩
        walk_at "s"
        exact ⟨rfl, _, rfl⟩
      · walk_at "s"
        refine ⟨_, _, rfl, .inl ha, ?_⟩
        walk_at "s"
        refine ite2 (fun h0 => ?_) (fun h0 => ?_)
        · rw [List.length_map, decide_eq_true_eq] at h0
          have hn : 0 < (ns.length : Int) := by omega
          walk_at "s"
          refine ⟨_, _, rfl, .inl ha, ?_⟩
          refine ⟨_, _, rfl, rfl, by rw [List.length_map]; exact hn, ?_⟩
          have hm0 := Int.emod_nonneg (k : Int) (show ((ns.map V.int).length : Int) ≠ 0 by rw [List.length_map]; omega)
          have hm1 := Int.emod_lt_of_pos (k : Int) (show (0 : Int) < ((ns.map V.int).length : Int) by rw [List.length_map]; omega)
          obtain ⟨z, hz⟩ := int_at (ns := ns) (i := ((k : Int) % ((ns.map V.int).length : Int)).toNat) (by rw [List.length_map] at hm1 ⊢; omega)
          refine ⟨_, _, _, .int z, rfl, rfl, ha, at_of (by omega) hz, ?_⟩
          walk_at "s"
          exact ⟨rfl, _, rfl⟩
        · exact ⟨rfl, _, rfl⟩
    · rintro σ H' ⟨rfl, c, rfl⟩
      walk_at "s"
      refine ite2 (fun _ => ?_) (fun _ => ?_)
      · walk_at "s"
        exact ⟨(by show 3 ≤ sizeLine; decide), fun p hp => kk p _ (sm_new hp) hp (BoxAt.of upd_same)⟩
      · walk_at "s"
        exact ⟨(by show 3 ≤ sizeLine; decide), fun p hp => kk p _ (sm_new hp) hp (BoxAt.of upd_same)⟩
theorem img_map {sg : List Nat} {ims : List (List Nat)} {f : List Nat → List Nat} (f0 : f [] = []) (c : Nat) : img sg (ims.map f) c = f (img sg ims c) := by
  unfold img
  rw [List.getD_eq_getElem?_getD, List.getD_eq_getElem?_getD, List.getElem?_map]
  cases ims[sg.idxOf c]? with
  | none => exact f0.symm
  | some l => rfl
theorem app_app {sg : List Nat} {ims jms : List (List Nat)} : ∀ l : List Nat, app sg (jms.map (app sg ims)) l = app sg ims (app sg jms l)
  | [] => rfl
  | c :: l => by
    have e1 : app sg (jms.map (app sg ims)) (c :: l) = img sg (jms.map (app sg ims)) c ++ app sg (jms.map (app sg ims)) l := List.flatMap_cons ..
    have e2 : app sg jms (c :: l) = img sg jms c ++ app sg jms l := List.flatMap_cons ..
    rw [e1, e2, app_app l, img_map rfl]
    exact (List.flatMap_append ..).symm
theorem app_cat (sg : List Nat) (ims : List (List Nat)) (l m : List Nat) : app sg ims (l ++ m) = app sg ims l ++ app sg ims m := List.flatMap_append ..
theorem mul_assoc {sg : List Nat} {a b c : List (List Nat)} : (c.map (app sg (b.map (app sg a)))) = ((c.map (app sg b)).map (app sg a)) := by
  rw [List.map_map]
  exact List.map_congr_left fun l _ => app_app l
theorem app_rev {sg : List Nat} {ims : List (List Nat)} : ∀ l : List Nat, app sg (ims.map List.reverse) l.reverse = (app sg ims l).reverse
  | [] => rfl
  | c :: l => by
    have e2 : app sg ims (c :: l) = img sg ims c ++ app sg ims l := List.flatMap_cons ..
    rw [List.reverse_cons, app_cat, app_rev l, e2, List.reverse_append]
    have e3 : app sg (ims.map List.reverse) [c] = (img sg ims c).reverse := by
      show img sg (ims.map List.reverse) c ++ [] = _
      rw [List.append_nil, img_map rfl]
    rw [e3]
theorem rev_rev (ims : List (List Nat)) : (ims.map List.reverse).map List.reverse = ims := by
  rw [List.map_map]
  have : (List.reverse ∘ List.reverse : List Nat → List Nat) = id := funext fun l => List.reverse_reverse l
  rw [this, List.map_id]
theorem turn_mul {sg : List Nat} {a b : List (List Nat)} : (b.map (app sg a)).map List.reverse = (b.map List.reverse).map (app sg (a.map List.reverse)) := by
  rw [List.map_map, List.map_map]
  exact List.map_congr_left fun l _ => (app_rev l).symm
theorem plain_img {sg : List Nat} {c : Nat} (h : c ∈ sg) : img sg (sg.map fun c => [c]) c = [c] := by
  unfold img
  have hl := List.idxOf_lt_length_of_mem h
  rw [List.getD_eq_getElem?_getD, List.getElem?_map, List.getElem?_eq_getElem hl, List.getElem_idxOf hl]
  rfl
theorem plain_app {sg : List Nat} : ∀ {l : List Nat}, Ov sg l → app sg (sg.map fun c => [c]) l = l
  | [], _ => rfl
  | c :: l, h => by
    have e : app sg (sg.map fun c => [c]) (c :: l) = img sg (sg.map fun c => [c]) c ++ app sg (sg.map fun c => [c]) l := List.flatMap_cons ..
    rw [e, plain_img (h c List.mem_cons_self), plain_app fun d hd => h d (List.mem_cons_of_mem _ hd)]
    rfl
theorem plain_right {sg : List Nat} {ims : List (List Nat)} (hn : sg.Nodup) (hl : ims.length = sg.length) : ((sg.map fun c => [c]).map (app sg ims)) = ims := by
  rw [List.map_map]
  apply List.ext_getElem
  · rw [List.length_map]; exact hl.symm
  · intro i h1 h2
    rw [List.getElem_map]
    have hi : i < sg.length := by rw [List.length_map] at h1; exact h1
    show app sg ims [sg[i]] = ims[i]
    have e : app sg ims [sg[i]] = img sg ims sg[i] := by
      show img sg ims sg[i] ++ [] = _
      rw [List.append_nil]
    rw [e]
    unfold img
    rw [hn.idxOf_getElem i hi, List.getD_eq_getElem?_getD, List.getElem?_eq_getElem h2]
    rfl
theorem plain_left {sg : List Nat} {ims : List (List Nat)} {m : Nat} (h : Ims sg ims m) : ims.map (app sg (sg.map fun c => [c])) = ims := by
  have e : ims.map (app sg (sg.map fun c => [c])) = ims.map id := List.map_congr_left fun l hl => plain_app (h.2 l hl).1
  rw [e, List.map_id]
theorem void_img {sg : List Nat} (c : Nat) : img sg (sg.map fun _ => []) c = [] := by
  unfold img
  rw [List.getD_eq_getElem?_getD, List.getElem?_map]
  cases sg[sg.idxOf c]? <;> rfl
theorem void_app {sg : List Nat} : ∀ l : List Nat, app sg (sg.map fun _ => []) l = []
  | [] => rfl
  | c :: l => by
    have e : app sg (sg.map fun _ => []) (c :: l) = img sg (sg.map fun _ => []) c ++ app sg (sg.map fun _ => []) l := List.flatMap_cons ..
    rw [e, void_img, void_app l]; rfl
theorem void_left {sg : List Nat} {ims : List (List Nat)} (hl : ims.length = sg.length) : ims.map (app sg (sg.map fun _ => [])) = sg.map fun _ => [] := by
  apply List.ext_getElem
  · rw [List.length_map, List.length_map]; exact hl
  · intro i h1 h2
    rw [List.getElem_map, List.getElem_map, void_app]
theorem void_right {sg : List Nat} {ims : List (List Nat)} : (sg.map fun _ => []).map (app sg ims) = sg.map fun _ => [] := by
  rw [List.map_map]
  rfl
end
end Toy
set_option maxHeartbeats 4000000
namespace Toy
open PySem L2 C8 SX LX
local macro_rules | `(tactic| walk_at "c") => `(tactic| refine And.intro (by first | (show (0 : Int) < _; omega) | exact Or.inr ⟨by decide, by decide⟩ | exact Or.inl ⟨by decide, by decide⟩ | (exact ⟨by omega, by omega⟩)) ?_)
local macro_rules | `(tactic| walk_at "s1") => `(tactic| first | refine ⟨_, rfl, ?_⟩ | refine ⟨_, _, rfl, rfl, ?_⟩ | refine .inl ⟨_, rfl, ?_⟩ | walk_at "c")
local macro_rules | `(tactic| walk_at "ix") => `(tactic| refine ⟨_, _, _, _, rfl, rfl, SqL.of (by first | assumption | exact upd_same), rfl, ?_⟩)
local macro_rules | `(tactic| walk_at "s") => `(tactic| repeat (walk_at "s1"))
section
variable {P : Program} {w : World} {K : PySem.W.Frag} {mg : Str → Option Value} {base : Heap} {C : Addr}
theorem Chg.bx {b a : Addr} {H H' : Hp} {sg : List Nat} {ims : List (List Nat)} (s : Bx b H H') (hb : BoxAt b H) (h : Chg C H a sg ims) : Chg C H' a sg ims := by
  obtain ⟨dx, r, h1, h2⟩ := h
  obtain ⟨o, e, x, y, z, rfl⟩ := hb
  exact ⟨dx, r, s.1 _ _ (ne_of h1 e (by intro h; cases h)) h1, s.1 _ _ (ne_of h2 e (by intro h; cases h)) h2⟩
theorem Chg.put {D a : Addr} {H : Hp} {sg : List Nat} {ims : List (List Nat)} {acc : List V} {o : HO} (e : H D = some (.lst acc)) (h : Chg C H a sg ims) : Chg C (upd H D o) a sg ims := by
  obtain ⟨dx, r, h1, h2⟩ := h
  exact ⟨dx, r, by rw [upd_ne (ne_of h1 e (by intro h; cases h))]; exact h1, by rw [upd_ne (ne_of h2 e (by intro h; cases h))]; exact h2⟩
theorem use_mul {H : Hp} {Q : VK} {a b : Addr} {sg : List Nat} {d0 d1 : List (List Nat)} (c0 : Chg C H a sg d0) (c1 : Chg C H b sg d1) (hm : Menu sg) (i0 : Ims sg d0 30) (i1 : Ims sg d1 30)
    (k : ∀ (q : Addr) (H' : Hp), Same H H' → Chg C H' q sg (d1.map (app sg d0)) → Q (.ref q) H') : rOpI C (spMul C) (.ref a) (.ref b) H Q := by
  obtain ⟨dx, r, h1, _⟩ := id c0
  obtain ⟨dy, t, h2, _⟩ := id c1
  exact ⟨a, b, dx, dy, _, _, rfl, rfl, h1, h2, a, b, sg, d0, d1, rfl, c0, c1, hm, i0, i1, fun q H' s c => ⟨q, rfl, k q H' s c⟩⟩
theorem use_ne {H : Hp} {Q : VK} {a b : Addr} {sg : List Nat} {d0 d1 : List (List Nat)} (c0 : Chg C H a sg d0) (c1 : Chg C H b sg d1) (hm : Menu sg) (i0 : Ims sg d0 1000) (i1 : Ims sg d1 1000) (e : d0 = d1)
    (k : ∀ H' : Hp, Same H H' → Q (.bl false) H') : rNeI C (spEqC C) (.ref a) (.ref b) H Q := by
  obtain ⟨dx, r, h1, _⟩ := id c0
  obtain ⟨dy, t, h2, _⟩ := id c1
  exact ⟨a, b, dx, dy, _, _, rfl, rfl, h1, h2, a, b, sg, d0, d1, rfl, c0, c1, hm, i0, i1, fun H' s => ⟨_, rfl, by rw [decide_eq_true e]; exact k H' s⟩⟩
theorem hd_of {R : Prop} {H : Hp} {a : Addr} {sg : List Nat} {d : List (List Nat)} (c : Chg C H a sg d) (h : R) : ∃ (a' dx : Addr) (fs : List (Str × V)), V.ref a = V.ref a' ∧ H a' = some (.ins C dx fs) ∧ fs.lookup ("of" : Str) = none ∧ R := by
  obtain ⟨dx, r, h1, _⟩ := id c
  exact ⟨a, dx, _, rfl, h1, chF_no _ _ (by decide +kernel) (by decide +kernel), h⟩
theorem hd_turned {R : Prop} {H : Hp} {a : Addr} {sg : List Nat} {d : List (List Nat)} (c : Chg C H a sg d) (h : R) : ∃ (a' dx : Addr) (fs : List (Str × V)), V.ref a = V.ref a' ∧ H a' = some (.ins C dx fs) ∧ fs.lookup ("turned" : Str) = none ∧ R := by
  obtain ⟨dx, r, h1, _⟩ := id c
  exact ⟨a, dx, _, rfl, h1, chF_no _ _ (by decide +kernel) (by decide +kernel), h⟩
theorem use_of {H : Hp} {Q : VK} {a : Addr} {sg l : List Nat} {d : List (List Nat)} (c : Chg C H a sg d) (i : Ims sg d 1000) (ho : Ov sg l) (hl : l.length ≤ 1000) (k : ∀ H', Same H H' → Q (.str (S (app sg d l))) H') :
    spOf C (.ref a :: ([.str (S l)] ++ [])) H Q C8.E0 := ⟨a, sg, d, l, rfl, c, i, ho, hl, k⟩
theorem use_of2 {H : Hp} {Q : VK} {a : Addr} {sg l r : List Nat} {d : List (List Nat)} (c : Chg C H a sg d) (i : Ims sg d 1000) (ho : Ov sg l) (hr : Ov sg r) (hl : l.length + r.length ≤ 1000) (k : ∀ H', Same H H' → Q (.str (S (app sg d (l ++ r)))) H') :
    spOf C (.ref a :: ([.str (S l ++ S r)] ++ [])) H Q C8.E0 := ⟨a, sg, d, l ++ r, by rw [S_cat]; rfl, c, i, fun x hx => (List.mem_append.mp hx).elim (ho x) (hr x), by rw [List.length_append]; exact hl, k⟩
theorem use_of0 {H : Hp} {Q : VK} {a : Addr} {sg : List Nat} {d : List (List Nat)} (c : Chg C H a sg d) (i : Ims sg d 1000) (k : ∀ H', Same H H' → Q (.str (Str.ofString "")) H') :
    spOf C (.ref a :: ([.str (Str.ofString "")] ++ [])) H Q C8.E0 := ⟨a, sg, d, [], by rw [s_nil]; rfl, c, i, (fun _ h => nomatch h), Nat.zero_le _, fun H' s => by have e := k H' s; rw [s_nil] at e; exact e⟩
theorem consc {v : V} {σ : St} {H : Hp} {R : List V → Hp → Prop} (h : R [v] H) : tCons (tC v) tNil σ H R := h
theorem tc1 {v : V} {σ : St} {H : Hp} {Q : VK} (h : Q v H) : tC v σ H Q := h
theorem make2 {H : Hp} {R : Addr → Hp → Prop} {sg : List Nat} {p : Addr} {ims : List (List Nat)} (hp : H p = some (.lst (txs ims))) (hm : Menu sg) (hi : Ims sg ims 1000) (k : ∀ (q : Addr) (H' : Hp), H q = none → Same H H' → Chg C H' q sg ims → R q H') :
    ∀ x dx, H x = none → H dx = none → dx ≠ x → spInit C (.ref x :: ([.str (S sg), .ref p] ++ [])) (upd (upd H dx (.own x)) x (.ins C dx [])) (fun v H2 => v = .non ∧ R x H2) C8.E0 :=
  fun x dx a b c => by
    obtain ⟨y1, y2, y3, y4, y5, e1, e2, e3, e4, e5, e6⟩ := make_use (R := fun v H' => ∃ q, v = .ref q ∧ R q H') hp hm hi (fun q H' a b c => ⟨q, rfl, k q H' a b c⟩) x dx a b c
    refine ⟨y1, y2, y3, y4, y5, e1, e2, e3, e4, e5, fun H' q1 q2 => ?_⟩
    obtain ⟨_, q, e, r⟩ := e6 H' q1 q2
    exact ⟨rfl, by cases e; exact r⟩
theorem use_turned {H : Hp} {Q : VK} {a : Addr} {sg : List Nat} {d : List (List Nat)} (c : Chg C H a sg d) (hm : Menu sg) (i : Ims sg d 1000) (k : ∀ (q : Addr) (H' : Hp), Same H H' → Chg C H' q sg (d.map List.reverse) → Q (.ref q) H') :
    spTurned C [.ref a] H Q C8.E0 := ⟨a, sg, d, rfl, c, hm, i, k⟩
theorem ov_rev {sg l : List Nat} (h : Ov sg l) : Ov sg l.reverse := fun c hc => h c (List.mem_reverse.mp hc)
theorem sz {n m : Nat} (h : n ≤ m) (hm : m ≤ 1000) : n ≤ sizeLine := Nat.le_trans (Nat.le_trans h hm) (show 1000 ≤ sizeLine by decide)
theorem nil1 {σ : St} {H : Hp} {R : List V → Hp → Prop} (h : R [] H) : tNil σ H R := h
theorem ne_str {l r : Str} {H : Hp} {R : VK} (e : l = r) (h : R (.bl false) H) : rNe (.str l) (.str r) H R := ⟨rfl, by rw [decide_eq_true (by rw [e])]; exact h⟩
theorem bl_f {p : Bool → Prop} (h : p false) : ∃ k, V.bl false = V.bl k ∧ p k := ⟨false, rfl, h⟩
theorem if_f {p q : Prop} (h : q) : if false = true then p else q := h
structure Fx (C : Addr) (sg : List Nat) (d0 d1 d2 : List (List Nat)) (D p0 p1 p2 q0 q1 q2 : Addr) (H : Hp) : Prop where
  D : H D = some (.lst [.ref p0, .ref p1, .ref p2])
  p0 : H p0 = some (.lst (txs d0))
  p1 : H p1 = some (.lst (txs d1))
  p2 : H p2 = some (.lst (txs d2))
  c0 : Chg C H q0 sg d0
  c1 : Chg C H q1 sg d1
  c2 : Chg C H q2 sg d2
theorem Fx.same {sg : List Nat} {d0 d1 d2 : List (List Nat)} {D p0 p1 p2 q0 q1 q2 : Addr} {H H' : Hp} (s : Same H H') (f : Fx C sg d0 d1 d2 D p0 p1 p2 q0 q1 q2 H) : Fx C sg d0 d1 d2 D p0 p1 p2 q0 q1 q2 H' :=
  ⟨s _ _ f.D, s _ _ f.p0, s _ _ f.p1, s _ _ f.p2, f.c0.same s, f.c1.same s, f.c2.same s⟩
theorem Fx.bx {sg : List Nat} {d0 d1 d2 : List (List Nat)} {b D p0 p1 p2 q0 q1 q2 : Addr} {H H' : Hp} (s : Bx b H H') (hb : BoxAt b H) (nD : D ≠ b) (n0 : p0 ≠ b) (n1 : p1 ≠ b) (n2 : p2 ≠ b) (f : Fx C sg d0 d1 d2 D p0 p1 p2 q0 q1 q2 H) : Fx C sg d0 d1 d2 D p0 p1 p2 q0 q1 q2 H' :=
  ⟨s.1 _ _ nD f.D, s.1 _ _ n0 f.p0, s.1 _ _ n1 f.p1, s.1 _ _ n2 f.p2, f.c0.bx s hb, f.c1.bx s hb, f.c2.bx s hb⟩
abbrev s_law : Stmt := top 21
abbrev n_law : List Str := ["script", "k", "box", "turn", "signs", "drawn", "one", "two", "three", "row", "tail", "inner", "both", "plain", "void", "more", "images", "image", "sign"]
theorem sc_law : FnScope n_law ["script"] (fnScope s_law) := fnScope_by (by decide +kernel)
def spLaw (K : PySem.W.Frag) : Sp := fun vs H Q _ => ∃ (a : Addr) (ns : List Int), vs = [.ref a] ∧ SqL K H a (ns.map V.int) ∧ ns.length ≤ 63 ∧ ∀ H', Q (.bl true) H'
theorem ok_law (T : BT mg) (CH : CC K C) (nC : NeC K C) (c_seed : Cal P w K mg base 1 "_law_seed" (spSeed K) []) (c_signs : Cal P w K mg base 3 "_law_signs" spSigns []) (c_row : Cal P w K mg base 3 "_law_row" spRow []) (c_images : Cal P w K mg base 4 "_law_images" spImages [])
    (c_image : Cal P w K mg base 1 "_law_image" (spImage K) []) (c_Change : Mak P w K mg base 4 "Change" C (spInit C) []) (c_of : Met P w K mg base 1 C "of" (spOf C) []) (c_turned : Met P w K mg base 6 C "turned" (spTurned C) []) (c_mul : Met P w K mg base 6 C "__mul__" (spMul C) []) (c_eq : Met P w K mg base 1 C "__eq__" (spEqC C) [])
    {f : Addr} {fd : FuncData} (F : Def K mg "law" s_law f fd) : FnOk P w K mg base C8.CX0 7 f fd ["script"] (spLaw K) := by
  refine fn0 F.fn sc_law (fun vs H Q E h => ?_) (fun cdv A outer s H vs Q E hr h => ?_)
  · obtain ⟨a, ns, rfl, _⟩ := h; rfl
  · obtain ⟨a, ns, rfl, ha, hl, kk⟩ := h
    refine ⟨_, (pss_cons (ps_for PassesOwn.never rfl (pi_range1 (by rfl) T.m_range (pa_cons (pe_callB (call_max2 rfl) (by rfl) T.m_max PyProof.Rows.boot_max (pa_cons pe_int (pa_cons (pe_callB (call_min2 rfl) (by rfl) T.m_min PyProof.Rows.boot_min (pa_cons pe_int (pa_cons (pe_callB (lenK K) (by rfl) T.m_len PySem.boot_len (pa_cons (pv 0) pa_nil)) pa_nil))) pa_nil))) pa_nil)) (pg_name (i := 1) sc_law.nd rfl (.inl rfl)) 
        (pss_cons (ps_set (i := 2) sc_law.nd rfl (.inr rfl) (pe_c c_seed hr (by first | decide | omega) (by rfl) (pa_cons (pv 0) (pa_cons (pv 1) pa_nil))))
        (pss_one (ps_for PassesOwn.never rfl (pi_range1 (by rfl) T.m_range (pa_cons pe_int pa_nil)) (pg_name (i := 3) sc_law.nd rfl (.inl rfl)) 
          (pss_cons (ps_set (i := 4) sc_law.nd rfl (.inr rfl) (pe_c c_signs hr (by first | decide | omega) (by rfl) (pa_cons (pv 2) pa_nil)))
          (pss_cons (ps_set (i := 5) sc_law.nd rfl (.inr rfl) (pe_lc (own := [("more", 15)]) rfl sc_law.nd (pi_range1 (by rfl) T.m_range (pa_cons pe_int pa_nil)) (blkOk_by (N := n_law) (sc := fnScope s_law) (by decide +kernel)) (fun _ _ _ _ _ => (pg_name (i := 15) sc_law.nd rfl (.inl rfl))) (fun _ _ _ _ _ => pts_nil) (fun _ _ _ _ _ => (pe_c c_images hr (by first | decide | omega) (by rfl) (pa_cons (pv 2) (pa_cons (pv 4) (pa_cons pe_int pa_nil)))))))
          (pss_cons (ps_asg (pe_lc (own := [("images", 16)]) rfl sc_law.nd (pi_list (pv 5)) (blkOk_by (N := n_law) (sc := fnScope s_law) (by decide +kernel)) (fun _ _ _ _ _ => (pg_name (i := 16) sc_law.nd rfl (.inl rfl))) (fun _ _ _ _ _ => pts_nil) (fun _ _ _ _ _ => (pe_mk c_Change hr (by decide) (by rfl) (pa_cons (pv 4) (pa_cons (pv 16) pa_nil))))) (unlK K 3 (pgs_cons (pg_name (i := 6) sc_law.nd rfl (.inl rfl)) (pgs_cons (pg_name (i := 7) sc_law.nd rfl (.inl rfl)) (pgs_cons (pg_name (i := 8) sc_law.nd rfl (.inl rfl)) pgs_nil)))))
          (pss_cons (ps_par (i := 9) (j := 10) rfl sc_law.nd rfl rfl (by decide) rfl rfl (pa_cons (pe_c c_row hr (by first | decide | omega) (by rfl) (pa_cons (pv 2) (pa_cons (pv 4) (pa_cons pe_int pa_nil)))) (pa_cons (pe_c c_row hr (by first | decide | omega) (by rfl) (pa_cons (pv 2) (pa_cons (pv 4) (pa_cons pe_int pa_nil)))) pa_nil)) rfl)
          (pss_cons (ps_set (i := 11) sc_law.nd rfl (.inl rfl) (pe_c c_image hr (by first | decide | omega) (by rfl) (pa_cons (pv 4) (pa_cons (pe_ix (ixl K) (pv 5) pe_int (fun _ _ => rfl)) (pa_cons (pv 9) pa_nil)))))
          (pss_cons (ps_set (i := 12) sc_law.nd rfl (.inl rfl) (pe_op (op_mulI nC c_mul hr (by decide)) (pv 6) (pv 7)))
          (pss_cons (ps_if (PW.pt (pw_or (pt_cmpR op_ne (pe_mt c_of hr (by decide) (pv 7) (pa_cons (pv 9) pa_nil)) (pv 11) (nomark _)) (pw_or1 (pt_cmpR op_ne (pe_mt c_of hr (by decide) (pv 12) (pa_cons (pv 9) pa_nil)) (pe_c c_image hr (by first | decide | omega) (by rfl) (pa_cons (pv 4) (pa_cons (pe_ix (ixl K) (pv 5) pe_int (fun _ _ => rfl)) (pa_cons (pv 11) pa_nil)))) (nomark _))))) 
            (pss_one (ps_ret pe_bl)
            )
           pss_nil)
          (pss_cons (ps_if (pt_cmpR (op_neSs hr) (pe_callTy (listK K) (by rfl) T.m_list PyProof.Rows.boot_list (pa_cons (fldK K (pe_op (op_mulI nC c_mul hr (by decide)) (pv 6) (pv 7)) rfl) pa_nil)) (pe_lc (own := [("image", 17)]) rfl sc_law.nd (pi_list (pe_ix (ixl K) (pv 5) pe_int (fun _ _ => rfl))) (blkOk_by (N := n_law) (sc := fnScope s_law) (by decide +kernel)) (fun _ _ _ _ _ => (pg_name (i := 17) sc_law.nd rfl (.inl rfl))) (fun _ _ _ _ _ => pts_nil) (fun _ _ _ _ _ => (pe_c c_image hr (by first | decide | omega) (by rfl) (pa_cons (pv 4) (pa_cons (pe_ix (ixl K) (pv 5) pe_int (fun _ _ => rfl)) (pa_cons (pv 17) pa_nil)))))) (nomark _)) 
            (pss_one (ps_ret pe_bl)
            )
           pss_nil)
          (pss_cons (ps_if (PW.pt (pw_or (pt_cmpR (op_neI nC c_eq hr (by decide)) (pe_op (op_mulI nC c_mul hr (by decide)) (pe_op (op_mulI nC c_mul hr (by decide)) (pv 6) (pv 7)) (pv 8)) (pe_op (op_mulI nC c_mul hr (by decide)) (pv 6) (pe_op (op_mulI nC c_mul hr (by decide)) (pv 7) (pv 8))) (nomark _)) (pw_or1 (pt_cmpR op_ne (pe_mt c_of hr (by decide) (pv 7) (pa_cons (pe_op op_add_str (pv 9) (pv 10)) pa_nil)) (pe_op op_add_str (pe_mt c_of hr (by decide) (pv 7) (pa_cons (pv 9) pa_nil)) (pe_mt c_of hr (by decide) (pv 7) (pa_cons (pv 10) pa_nil))) (nomark _))))) 
            (pss_one (ps_ret pe_bl)
            )
           pss_nil)
          (pss_cons (ps_if (PW.pt (pw_or (pt_cmpR op_ne (pe_mt c_of hr (by decide) (pe_mt0 c_turned hr (by decide) (pv 7)) (pa_cons (pe_revS (pv 9) (pe_op op_sub pe_int pe_int)) pa_nil)) (pe_revS (pe_mt c_of hr (by decide) (pv 7) (pa_cons (pv 9) pa_nil)) (pe_op op_sub pe_int pe_int)) (nomark _)) (pw_or1 (pt_cmpR (op_neI nC c_eq hr (by decide)) (pe_mt0 c_turned hr (by decide) (pe_mt0 c_turned hr (by decide) (pv 7))) (pv 7) (nomark _))))) 
            (pss_one (ps_ret pe_bl)
            )
           pss_nil)
          (pss_cons (ps_if (PW.pt (pw_or (pt_cmpR (op_neI nC c_eq hr (by decide)) (pe_mt0 c_turned hr (by decide) (pe_op (op_mulI nC c_mul hr (by decide)) (pv 6) (pv 7))) (pe_op (op_mulI nC c_mul hr (by decide)) (pe_mt0 c_turned hr (by decide) (pv 6)) (pe_mt0 c_turned hr (by decide) (pv 7))) (nomark _)) (pw_or1 (pt_cmpR op_ne (pe_mt c_of hr (by decide) (pv 7) (pa_cons pe_str pa_nil)) pe_str (nomark _))))) 
            (pss_one (ps_ret pe_bl)
            )
           pss_nil)
          (pss_cons (ps_par (i := 13) (j := 14) rfl sc_law.nd rfl rfl (by decide) rfl rfl (pa_cons (pe_mk c_Change hr (by decide) (by rfl) (pa_cons (pv 4) (pa_cons (pe_callTy (LX.call_list_str rfl) (by rfl) T.m_list PyProof.Rows.boot_list (pa_cons (pv 4) pa_nil)) pa_nil))) (pa_cons (pe_mk c_Change hr (by decide) (by rfl) (pa_cons (pv 4) (pa_cons (pe_lc (own := [("sign", 18)]) rfl sc_law.nd (pi_str (pv 4)) (blkOk_by (N := n_law) (sc := fnScope s_law) (by decide +kernel)) (fun _ _ _ _ _ => (pg_name (i := 18) sc_law.nd rfl (.inl rfl))) (fun _ _ _ _ _ => pts_nil) (fun _ _ _ _ _ => pe_str)) pa_nil))) pa_nil)) rfl)
          (pss_cons (ps_if (PW.pt (pw_or (pt_cmpR (op_neI nC c_eq hr (by decide)) (pe_op (op_mulI nC c_mul hr (by decide)) (pv 6) (pv 13)) (pv 6) (nomark _)) (pw_or (pt_cmpR (op_neI nC c_eq hr (by decide)) (pe_op (op_mulI nC c_mul hr (by decide)) (pv 13) (pv 6)) (pv 6) (nomark _)) (pw_or (pt_cmpR (op_neI nC c_eq hr (by decide)) (pe_op (op_mulI nC c_mul hr (by decide)) (pv 14) (pv 6)) (pv 14) (nomark _)) (pw_or1 (pt_cmpR (op_neI nC c_eq hr (by decide)) (pe_op (op_mulI nC c_mul hr (by decide)) (pv 6) (pv 14)) (pv 14) (nomark _))))))) 
            (pss_one (ps_ret pe_bl)
            )
           pss_nil)
          (pss_one (ps_if (PW.pt (pw_or (pt_cmpR op_ne (pe_mt c_of hr (by decide) (pv 13) (pa_cons (pv 9) pa_nil)) (pv 9) (nomark _)) (pw_or1 (pt_cmpR op_ne (pe_mt c_of hr (by decide) (pv 14) (pa_cons (pv 9) pa_nil)) pe_str (nomark _))))) 
            (pss_one (ps_ret pe_bl)
            )
           pss_nil)
          )))))))))))))))
        )))
      (pss_one (ps_ret pe_bl)
      )), ?_⟩
    walk_at "s"
    refine ⟨_, _, rfl, .inl ha, _, _, rfl, _, _, rfl, _, rfl, ?_⟩
    have hb1 : ∀ x y : Int, -(2 ^ 62) ≤ x → x < 2 ^ 62 → -(2 ^ 62) ≤ y → y < 2 ^ 62 → -(2 ^ 62) ≤ (if x > y then x else y) ∧ (if x > y then x else y) < 2 ^ 62 := fun x y _ _ _ _ => by split <;> omega
    have hb2 : ∀ x y : Int, -(2 ^ 62) ≤ x → x < 2 ^ 62 → -(2 ^ 62) ≤ y → y < 2 ^ 62 → -(2 ^ 62) ≤ (if x < y then x else y) ∧ (if x < y then x else y) < 2 ^ 62 := fun x y _ _ _ _ => by split <;> omega
    have hm := hb2 ((ns.map V.int).length : Int) 3 (by omega) (by rw [List.length_map]; omega) (by decide) (by decide)
    have hM := hb1 _ 1 hm.1 hm.2 (by decide) (by decide)
    refine ⟨hM.1, hM.2, ?_⟩
    refine for_it (walk_range (lo := 0)) (fun i σ H' => (∃ s1 s2 s3 s4 s5 s6 s7 s8 s9 s10 s11 s12 s13 s14 s15 s16 s17 s18 : Option V, σ = [some (.ref a), s1, s2, s3, s4, s5, s6, s7, s8, s9, s10, s11, s12, s13, s14, s15, s16, s17, s18]) ∧ Same H H')
      ⟨⟨_, _, _, _, _, _, _, _, _, _, _, _, _, _, _, _, _, _, rfl⟩, Same.refl _⟩ (fun _ _ _ _ _ => trivial) ?_ ?_
    · rintro i x σ H1 H1' hi ⟨⟨s1, s2, s3, s4, s5, s6, s7, s8, s9, s10, s11, s12, s13, s14, s15, s16, s17, s18, rfl⟩, hs1⟩ ⟨rfl, rfl⟩
      walk_at "s"
      refine ⟨a, i, ns, by show [V.ref a, V.int (0 + (i : Int))] = _; rw [Int.zero_add], hs1.seq ha, hl, fun b H2 hs2 nb hB => ?_⟩
      refine ⟨4, rfl, by decide, by decide, ?_⟩
      refine for_it (walk_range (lo := 0)) (fun i' σ H' => (∃ s1 s3 s4 s5 s6 s7 s8 s9 s10 s11 s12 s13 s14 s15 s16 s17 s18 : Option V, σ = [some (.ref a), s1, some (.ref b), s3, s4, s5, s6, s7, s8, s9, s10, s11, s12, s13, s14, s15, s16, s17, s18]) ∧ Bx b H2 H')
        ⟨⟨_, _, _, _, _, _, _, _, _, _, _, _, _, _, _, _, _, rfl⟩, bk_same (Same.refl _) hB⟩ (fun _ _ _ _ _ => trivial) ?_ ?_
      · clear s1 s2 s3 s4 s5 s6 s7 s8 s9 s10 s11 s12 s13 s14 s15 s16 s17 s18
        rintro i' x σ H3 H3' hi' ⟨⟨s1, s3, s4, s5, s6, s7, s8, s9, s10, s11, s12, s13, s14, s15, s16, s17, s18, rfl⟩, hB3⟩ ⟨rfl, rfl⟩
        walk_at "s"
        refine ⟨hB3.2, fun sg H4 hmn hB4 => ?_⟩
        have hlen := menu_len hmn
        clear hm hM hb1 hb2
        walk_at "s"
        refine ⟨by decide, by decide, fun D hD => ?_⟩
        have nDb : D ≠ b := box_ne hB4.2 hD
        refine lc_keepH (keep_bk hB4.2) (walk_range (lo := 0) (n := 3)) hD (by decide) (fun _ y H => ∃ (p : Addr) (ims : List (List Nat)), y = .ref p ∧ p ≠ D ∧ p ≠ b ∧ H p = some (.lst (txs ims)) ∧ Ims sg ims 3) (fun _ _ => trivial)
          (fun _ _ H5 H6 _ r ⟨p, ims, e, n1, n2, hp, hi⟩ => ⟨p, ims, e, n1, n2, r.1 _ _ n2 hp, hi⟩) (fun _ _ H5 _ _ _ _ ⟨p, ims, e, n1, n2, hp, hi⟩ => ⟨p, ims, e, n1, n2, by rw [upd_ne n1]; exact hp, hi⟩) (fun j x H5 H6 acc R hj r hDa hy hR => ?_) (fun ys H5 hly hg r hDs => ?_)
        · obtain ⟨rfl, rfl⟩ := hy
          refine ⟨rfl, ?_⟩
          walk_at "s"
          exact ⟨b, sg, 3, rfl, hmn, by decide, by decide, r.2, fun p ims H7 hims hB7 np hp => hR _ _ hB7 ⟨p, ims, rfl, (ne_of_none hDa np).symm, box_ne r.2 np, hp, hims⟩⟩
        obtain ⟨y0, y1, y2, rfl⟩ : ∃ y0 y1 y2, ys = [y0, y1, y2] := by
          match ys, hly with
          | [u, v, w], _ => exact ⟨u, v, w, rfl⟩
        obtain ⟨p0, d0, rfl, nD0, nb0, hp0, hi0⟩ := hg 0 _ rfl
        obtain ⟨p1, d1, rfl, nD1, nb1, hp1, hi1⟩ := hg 1 _ rfl
        obtain ⟨p2, d2, rfl, nD2, nb2, hp2, hi2⟩ := hg 2 _ rfl
        clear hg
        have hall : ∀ (j : Nat) (x : V), ([V.ref p0, V.ref p1, V.ref p2] : List V)[j]? = some x → ∃ (p : Addr) (ims : List (List Nat)), x = .ref p ∧ [d0, d1, d2][j]? = some ims ∧ H5 p = some (.lst (txs ims)) ∧ Ims sg ims 3 := fun j x e => by
          rcases j with _ | _ | _ | j
          · cases e; exact ⟨p0, d0, rfl, rfl, hp0, hi0⟩
          · cases e; exact ⟨p1, d1, rfl, rfl, hp1, hi1⟩
          · cases e; exact ⟨p2, d2, rfl, rfl, hp2, hi2⟩
          · simp at e
        refine ⟨_, rfl, _, rfl, ⟨_, SqL.of hDs⟩, fun D2 hD2 => ?_⟩
        refine lc_keepH keep_same (walk_list (K := K) (a := D) (xs := [V.ref p0, V.ref p1, V.ref p2])) hD2 (by show 3 < sizeLine; decide) (fun j y H => ∃ q : Addr, y = .ref q ∧ ∀ ims, [d0, d1, d2][j]? = some ims → Chg C H q sg ims) (fun H6 r6 => SqL.of (r6 _ _ hDs))
          (fun _ _ H6 H7 _ r6 ⟨q, e, hc⟩ => ⟨q, e, fun ims h => (hc ims h).same r6⟩) (fun _ _ H6 _ _ _ hDa ⟨q, e, hc⟩ => ⟨q, e, fun ims h => (hc ims h).put hDa⟩) (fun j x H6 H7 acc R hj r6 hDa hy hR => ?_) (fun ys H6 hly hg r6 hDs2 => ?_)
        · obtain ⟨rfl, e⟩ := hy
          obtain ⟨p, ims, rfl, e2, hp, hi⟩ := hall j x e
          refine ⟨rfl, ?_⟩
          refine ⟨_, rfl, _, rfl, ?_⟩
          exact make_use (r6 _ _ hp) hmn (hi.mono (by decide)) fun q H8 _ s8 c8 => hR _ _ s8 ⟨q, rfl, fun ims' h => by rw [e2] at h; rw [← Option.some.inj h]; exact c8⟩
        obtain ⟨y0, y1, y2, rfl⟩ : ∃ y0 y1 y2, ys = [y0, y1, y2] := by
          match ys, hly with
          | [u, v, w], _ => exact ⟨u, v, w, rfl⟩
        obtain ⟨q0, rfl, c0⟩ := hg 0 _ rfl
        obtain ⟨q1, rfl, c1⟩ := hg 1 _ rfl
        obtain ⟨q2, rfl, c2⟩ := hg 2 _ rfl
        clear hg
        refine ⟨D2, _, rfl, SqL.of hDs2, rfl, _, _, rfl, _, _, rfl, _, _, rfl, rfl, ?_⟩
        have F6 : Fx C sg d0 d1 d2 D p0 p1 p2 q0 q1 q2 H6 := ⟨r6 _ _ hDs, r6 _ _ hp0, r6 _ _ hp1, r6 _ _ hp2, c0 _ rfl, c1 _ rfl, c2 _ rfl⟩
        have hB6 : Bx b H2 H6 := (hB3.trans hB4).trans (Bx.trans r (bk_same r6 r.2))
        clear c0 c1 c2 hall hly hDs hDs2 hp0 hp1 hp2 hD hD2 r
        walk_at "s"
        refine ⟨b, sg, 9, rfl, hmn, by decide, hB6.2, fun row H7 horow hlrow hB7 => ?_⟩
        walk_at "s"
        refine ⟨b, sg, 5, rfl, hmn, by decide, hB7.2, fun tail H8 hotail hltail hB8 => ?_⟩
        have F8 := (F6.bx hB7 hB6.2 nDb nb0 nb1 nb2).bx hB8 hB7.2 nDb nb0 nb1 nb2
        have hBx8 : Bx b H2 H8 := (hB6.trans hB7).trans hB8
        clear hB7 hB8 F6
        walk_at "s"
        refine ⟨_, _, rfl, ?_⟩
        refine ⟨_, rfl, _, rfl, _, _, _, _, rfl, rfl, SqL.of F8.D, rfl, _, rfl, ?_⟩
        refine ⟨sg, p1, d1, row, rfl, SqL.of F8.p1, hi1.mono (by decide), horow, by omega, fun H9 h9 => ?_⟩
        have F9 := F8.same h9
        refine ⟨_, rfl, _, rfl, use_mul F9.c0 F9.c1 hmn (hi0.mono (by decide)) (hi1.mono (by decide)) fun qb H10 h10 cb => ?_⟩
        have F10 := F9.same h10
        have i10 : Ims sg (d1.map (app sg d0)) 9 := ims_mul hi0 hi1
        have l1 : (app sg d1 row).length ≤ 27 := Nat.le_trans (app_len hi1 horow) (by omega)
        refine ⟨_, rfl, hd_of F10.c1 ?_⟩
        refine ⟨_, rfl, nil1 (use_of F10.c1 (hi1.mono (by decide)) horow (by omega) fun H11 h11 => ?_)⟩
        have F11 := F10.same h11
        refine ⟨_, rfl, ne_str rfl (bl_f (if_f ?_))⟩
        refine ⟨_, rfl, hd_of (cb.same h11) ?_⟩
        refine ⟨_, rfl, nil1 (use_of (cb.same h11) (i10.mono (by decide)) horow (by omega) fun H12 h12 => ?_)⟩
        have F12 := F11.same h12
        refine ⟨_, rfl, _, rfl, _, _, _, _, rfl, rfl, SqL.of F12.D, rfl, _, rfl, ?_⟩
        refine ⟨sg, p0, d0, app sg d1 row, rfl, SqL.of F12.p0, hi0.mono (by decide), app_ov hi1 horow, by omega, fun H13 h13 => ?_⟩
        have F13 := F12.same h13
        refine ne_str (by rw [app_app]) (bl_f (if_f ?_))
        have hBx13 : Bx b H2 H13 := hBx8.trans (bk_same (h9.trans (h10.trans (h11.trans (h12.trans h13)))) hBx8.2)
        have cb13 := cb.same (h11.trans (h12.trans h13))
        clear F9 F10 F11 F12 F8 hBx8 h9 h10 h11 h12 h13 cb
        refine ⟨_, rfl, _, rfl, use_mul F13.c0 F13.c1 hmn (hi0.mono (by decide)) (hi1.mono (by decide)) fun qc H14 h14 cc => ?_⟩
        have F14 := F13.same h14
        obtain ⟨dxc, rc, hc1, hc2⟩ := id cc
        refine ⟨qc, C, dxc, _, _, rfl, hc1, CH.cl, CH.nR, chF_rows _ _, ?_⟩
        refine nil1 ⟨rc, _, rfl, .inr (.inl (.inl hc2)), fun lq hlq => ?_⟩
        have s14 : Same H14 (upd H14 lq (.lst (txs (d1.map (app sg d0))))) := sm_new hlq
        have F15 := F14.same s14
        refine ⟨_, rfl, _, _, _, _, rfl, rfl, SqL.of F15.D, rfl, _, rfl, ⟨_, SqL.of F15.p1⟩, fun D3 hD3 => lc_keep keep_same (walk_list (K := K) (a := p1) (xs := txs d1)) hD3 (by rw [txs_len, hi1.1]; exact small1000 (by omega)) (fun j y => ∀ l, d1[j]? = some l → y = .str (S (app sg d0 l))) (fun H2 r1 => SqL.of (r1 _ _ F15.p1)) (fun i x H16 H17 R hii r1 hy hR => ?_) (fun ys H16 hly hg r1 hDs => ?_)⟩
        · obtain ⟨rfl, e⟩ := hy
          obtain ⟨l, el, rfl⟩ := txs_get e
          have hjl := hi1.2 l (List.mem_of_getElem? el)
          refine ⟨rfl, ?_⟩
          refine ⟨_, rfl, _, rfl, _, _, _, _, rfl, rfl, SqL.of (r1 _ _ F15.D), rfl, _, rfl, ?_⟩
          exact ⟨sg, p0, d0, l, rfl, SqL.of (r1 _ _ F15.p0), hi0.mono (by decide), hjl.1, by omega, fun H4 s4 => hR _ _ s4 fun l' h => by rw [el] at h; rw [Option.some.inj h]⟩
        have eys := txs_of (f := app sg d0) hly hg
        subst eys
        refine ⟨lq, D3, _, _, rfl, rfl, .inl ⟨SqL.of (r1 _ _ upd_same), SqL.of hDs⟩, ims_small hmn i10, ims_small hmn i10, ?_⟩
        refine ⟨_, rfl, iteN (by simp) ?_⟩
        have hBx16 : Bx b H2 _ := hBx13.trans (bk_same ((h14.trans s14).trans r1) hBx13.2)
        have F16 := F15.same r1
        have cb16 := cb13.same ((h14.trans s14).trans r1)
        clear cc hc1 hc2 F13 F14 F15 cb13 hBx13 hD3 hDs hly hg h14 s14 r1
        refine ⟨_, rfl, _, rfl, use_mul F16.c0 F16.c1 hmn (hi0.mono (by decide)) (hi1.mono (by decide)) fun u1 H17 h17 k1 => ?_⟩
        have F17 := F16.same h17
        refine ⟨_, rfl, use_mul k1 F17.c2 hmn (i10.mono (by decide)) (hi2.mono (by decide)) fun u2 H18 h18 k2 => ?_⟩
        have F18 := F17.same h18
        refine ⟨_, rfl, _, rfl, _, rfl, use_mul F18.c1 F18.c2 hmn (hi1.mono (by decide)) (hi2.mono (by decide)) fun u3 H19 h19 k3 => ?_⟩
        have F19 := F18.same h19
        have i21 : Ims sg (d2.map (app sg d1)) 9 := ims_mul hi1 hi2
        refine use_mul F19.c0 k3 hmn (hi0.mono (by decide)) (i21.mono (by decide)) fun u4 H20 h20 k4 => ?_
        have F20 := F19.same h20
        refine use_ne (k2.same (h19.trans h20)) k4 hmn ((ims_mul i10 hi2).mono (by decide)) ((ims_mul hi0 i21).mono (by decide)) mul_assoc fun H21 h21 => ?_
        have F21 := F20.same h21
        refine bl_f (if_f ?_)
        refine ⟨_, rfl, hd_of F21.c1 ?_⟩
        walk_at "s"
        have l2 : (app sg d1 tail).length ≤ 15 := Nat.le_trans (app_len hi1 hotail) (by omega)
        refine ⟨by rw [S_len, S_len]; exact sz (m := 14) (by omega) (by decide), ?_⟩
        refine nil1 (use_of2 F21.c1 (hi1.mono (by decide)) horow hotail (by omega) fun H22 h22 => ?_)
        have F22 := F21.same h22
        refine ⟨_, rfl, hd_of F22.c1 ?_⟩
        refine ⟨_, rfl, nil1 (use_of F22.c1 (hi1.mono (by decide)) horow (by omega) fun H23 h23 => ?_)⟩
        have F23 := F22.same h23
        refine ⟨_, rfl, hd_of F23.c1 ?_⟩
        refine ⟨_, rfl, nil1 (use_of F23.c1 (hi1.mono (by decide)) hotail (by omega) fun H24 h24 => ?_)⟩
        have F24 := F23.same h24
        refine ⟨_, _, rfl, rfl, by rw [S_len, S_len]; exact sz (m := 42) (by omega) (by decide), ?_⟩
        refine ne_str (by rw [S_cat]; unfold app; rw [List.flatMap_append]) (bl_f (if_f ?_))
        have s24 := h17.trans (h18.trans (h19.trans (h20.trans (h21.trans (h22.trans (h23.trans h24))))))
        have hBx24 := hBx16.trans (bk_same s24 hBx16.2)
        have cb24 := cb16.same s24
        clear F16 F17 F18 F19 F20 F21 F22 F23 h17 h18 h19 h20 h21 h22 h23 h24 s24 k1 k2 k3 k4 cb16 hBx16
        refine ⟨_, rfl, hd_turned F24.c1 ?_⟩
        refine nil1 (use_turned F24.c1 hmn (hi1.mono (by decide)) fun t1 H25 h25 kt => ?_)
        have F25 := F24.same h25
        refine hd_of kt ?_
        walk_at "s"
        refine ⟨rfl, row, rfl, sz hlrow (by decide), ?_⟩
        refine nil1 (use_of kt (ims_rev (hi1.mono (by decide))) (ov_rev horow) (by rw [List.length_reverse]; omega) fun H26 h26 => ?_)
        have F26 := F25.same h26
        refine ⟨_, rfl, hd_of F26.c1 ?_⟩
        refine ⟨_, rfl, nil1 (use_of F26.c1 (hi1.mono (by decide)) horow (by omega) fun H27 h27 => ?_)⟩
        have F27 := F26.same h27
        walk_at "s"
        refine ⟨rfl, _, rfl, sz l1 (by decide), ?_⟩
        refine ne_str (by rw [app_rev]) (bl_f (if_f ?_))
        refine ⟨_, rfl, hd_turned F27.c1 ?_⟩
        refine nil1 (use_turned F27.c1 hmn (hi1.mono (by decide)) fun t2 H28 h28 k5 => ?_)
        have F28 := F27.same h28
        refine hd_turned k5 ?_
        refine nil1 (use_turned k5 hmn (ims_rev (hi1.mono (by decide))) fun t3 H29 h29 k6 => ?_)
        have F29 := F28.same h29
        refine ⟨_, rfl, use_ne k6 F29.c1 hmn (ims_rev (ims_rev (hi1.mono (by decide)))) (hi1.mono (by decide)) (rev_rev d1) fun H30 h30 => ?_⟩
        have F30 := F29.same h30
        refine bl_f (if_f ?_)
        have s30 := h25.trans (h26.trans (h27.trans (h28.trans (h29.trans h30))))
        have hBx30 := hBx24.trans (bk_same s30 hBx24.2)
        clear F24 F25 F26 F27 F28 F29 h25 h26 h27 h28 h29 h30 s30 kt k5 k6 hBx24 cb24
        refine ⟨_, rfl, _, rfl, use_mul F30.c0 F30.c1 hmn (hi0.mono (by decide)) (hi1.mono (by decide)) fun u1 H31 h31 k1 => ?_⟩
        have F31 := F30.same h31
        refine hd_turned k1 ?_
        refine nil1 (use_turned k1 hmn (i10.mono (by decide)) fun u2 H32 h32 k2 => ?_)
        have F32 := F31.same h32
        refine ⟨_, rfl, hd_turned F32.c0 ?_⟩
        refine nil1 (use_turned F32.c0 hmn (hi0.mono (by decide)) fun u3 H33 h33 k3 => ?_)
        have F33 := F32.same h33
        refine ⟨_, rfl, hd_turned F33.c1 ?_⟩
        refine nil1 (use_turned F33.c1 hmn (hi1.mono (by decide)) fun u4 H34 h34 k4 => ?_)
        have F34 := F33.same h34
        refine use_mul (k3.same h34) k4 hmn (ims_rev (hi0.mono (by decide))) (ims_rev (hi1.mono (by decide))) fun u5 H35 h35 k5 => ?_
        have F35 := F34.same h35
        refine use_ne (k2.same (h33.trans (h34.trans h35))) k5 hmn (ims_rev (i10.mono (by decide))) ((ims_mul (ims_rev hi0) (ims_rev hi1)).mono (by decide)) turn_mul fun H36 h36 => ?_
        have F36 := F35.same h36
        refine bl_f (if_f ?_)
        refine ⟨_, rfl, hd_of F36.c1 ?_⟩
        refine consc (use_of0 F36.c1 (hi1.mono (by decide)) fun H37 h37 => ?_)
        have F37 := F36.same h37
        refine tc1 (ne_str rfl (bl_f (if_f ?_)))
        have s37 := h31.trans (h32.trans (h33.trans (h34.trans (h35.trans (h36.trans h37)))))
        have hBx37 := hBx30.trans (bk_same s37 hBx30.2)
        clear F30 F31 F32 F33 F34 F35 F36 h31 h32 h33 h34 h35 h36 h37 s37 k1 k2 k3 k4 k5 hBx30
        walk_at "s"
        refine ⟨Nat.le_trans hlen.2 (by decide), fun pp hpp => ?_⟩
        have spp : Same H37 (upd H37 pp (.lst (txs (sg.map fun c => [c])))) := sm_new hpp
        have epp : HO.lst (sg.map fun c => V.str (S [c])) = .lst (txs (sg.map fun c => [c])) := by unfold txs; rw [List.map_map]; rfl
        rw [epp]
        refine nil1 (make2 upd_same hmn ((ims_self (Nat.le_refl 1)).mono (by decide)) fun qp H38 _ h38 cp => ?_)
        have F38 := F37.same (spp.trans h38)
        walk_at "s"
        refine fun D4 hD4 => lc_keep keep_same walk_str hD4 (by show sg.length < sizeLine; exact small1000 (by omega)) (fun _ y => y = .str (S [])) (fun _ _ => trivial) (fun i x H2 H3 R hi r hy hR => ?_) (fun ys H39 hl hg r hDs => ?_)
        · obtain ⟨rfl, c, hc, rfl⟩ := hy
          exact ⟨rfl, hR _ _ (Same.refl _) (by rw [s_nil])⟩
        have eys : ys = txs (sg.map fun _ => []) := by
          unfold txs; rw [List.map_map]
          exact list_map (f := fun _ => V.str (S [])) hl fun j y x e1 _ => hg j y e1
        subst eys
        refine nil1 (make2 hDs hmn ims_void fun qv H40 _ h40 cv => ?_)
        have F40 := F38.same (r.trans h40)
        have cp40 := cp.same (r.trans h40)
        have s40 := spp.trans (h38.trans (r.trans h40))
        have hBx40 := hBx37.trans (bk_same s40 hBx37.2)
        clear F37 F38 hBx37 s40 h38 h40 r spp hDs hl hg hD4 hpp epp cp
        refine nil1 ⟨_, _, rfl, ?_⟩
        have nd := menu_nodup hmn
        have im0 : Ims sg d0 30 := hi0.mono (by decide)
        have imp : Ims sg (sg.map fun c => [c]) 30 := ims_self (by decide)
        have imv : Ims sg (sg.map fun _ => []) 30 := ims_void
        refine ⟨_, rfl, _, rfl, use_mul F40.c0 cp40 hmn im0 imp fun u1 H41 h41 k1 => ?_⟩
        have F41 := F40.same h41
        refine ⟨_, rfl, use_ne k1 F41.c0 hmn ((ims_mul im0 imp).mono (by decide)) (hi0.mono (by decide)) (plain_right nd hi0.1) fun H42 h42 => ?_⟩
        refine bl_f (if_f ?_)
        have F42 := F41.same h42
        have s42 := h41.trans h42
        have cp42 := cp40.same s42
        have cv42 := cv.same s42
        refine ⟨_, rfl, _, rfl, use_mul cp42 F42.c0 hmn imp im0 fun u2 H43 h43 k2 => ?_⟩
        have F43 := F42.same h43
        refine ⟨_, rfl, use_ne k2 F43.c0 hmn ((ims_mul imp im0).mono (by decide)) (hi0.mono (by decide)) (plain_left hi0) fun H44 h44 => ?_⟩
        refine bl_f (if_f ?_)
        have s44 := h43.trans h44
        have F44 := F42.same s44
        have cp44 := cp42.same s44
        have cv44 := cv42.same s44
        refine ⟨_, rfl, _, rfl, use_mul cv44 F44.c0 hmn imv im0 fun u3 H45 h45 k3 => ?_⟩
        refine ⟨_, rfl, use_ne k3 (cv44.same h45) hmn ((ims_mul imv im0).mono (by decide)) ims_void (void_left hi0.1) fun H46 h46 => ?_⟩
        refine bl_f (if_f ?_)
        have s46 := h45.trans h46
        have F46 := F44.same s46
        have cp46 := cp44.same s46
        have cv46 := cv44.same s46
        refine ⟨_, rfl, _, rfl, use_mul F46.c0 cv46 hmn im0 imv fun u4 H47 h47 k4 => ?_⟩
        refine ⟨_, rfl, use_ne k4 (cv46.same h47) hmn ((ims_mul im0 imv).mono (by decide)) ims_void void_right fun H48 h48 => ?_⟩
        refine bl_f (if_f ?_)
        have s48 := h47.trans h48
        have cp48 := cp46.same s48
        have cv48 := cv46.same s48
        refine ⟨_, rfl, hd_of cp48 ?_⟩
        refine ⟨_, rfl, nil1 (use_of cp48 (imp.mono (by decide)) horow (by omega) fun H49 h49 => ?_)⟩
        refine ⟨_, rfl, ne_str (by rw [plain_app horow]) (bl_f (if_f ?_))⟩
        refine ⟨_, rfl, hd_of (cv48.same h49) ?_⟩
        refine ⟨_, rfl, nil1 (use_of (cv48.same h49) (imv.mono (by decide)) horow (by omega) fun H50 h50 => ?_)⟩
        refine tc1 (ne_str (by rw [void_app, s_nil]) (bl_f (if_f ?_)))
        have hBx50 := hBx40.trans (bk_same (s42.trans (s44.trans (s46.trans (s48.trans (h49.trans h50))))) hBx40.2)
        exact ⟨⟨_, _, _, _, _, _, _, _, _, _, _, _, _, _, _, _, _, rfl⟩, hBx50⟩
      · rintro σ H3 ⟨⟨s1, s3, s4, s5, s6, s7, s8, s9, s10, s11, s12, s13, s14, s15, s16, s17, s18, rfl⟩, hB3⟩
        refine ⟨⟨_, _, _, _, _, _, _, _, _, _, _, _, _, _, _, _, _, _, rfl⟩, fun c o e => ?_⟩
        have e2 := (hs1.trans hs2) c o e
        refine hB3.1 c o (fun h => ?_) e2
        rw [h] at e
        have := hs1 _ _ e
        rw [nb] at this; cases this
    · rintro σ H1 ⟨⟨s1, s2, s3, s4, s5, s6, s7, s8, s9, s10, s11, s12, s13, s14, s15, s16, s17, s18, rfl⟩, hs1⟩
      walk_at "s"
      exact kk _
end
end Toy
namespace Toy
open PySem L2 C8 SX LX
theorem all_mk {l : PySem.W.OpenLaw} {w : World} {K : PySem.W.Frag} {h : Heap} {mg : Str → Option Value} {fa : Addr} {f_choose f_one_of f_signs f_row f_images f_image f_seed f_isseq f_isletters f_issigns f_isrow f_isrows f_init f_of f_turned f_mul f_eq f_law C_Change : Addr} (X : K.In h) (G : h.Ns mainGlobals mg) (hfa : mg "law" = some (.ref fa))
    {od_choose an_choose : Option Addr} {sl_choose : Array (Option Value)} {oc_choose kV_choose dc_choose pm_choose cd_choose ct_choose : Value}
    {od_one_of an_one_of : Option Addr} {sl_one_of : Array (Option Value)} {oc_one_of kV_one_of dc_one_of pm_one_of cd_one_of ct_one_of : Value}
    {od_signs an_signs : Option Addr} {sl_signs : Array (Option Value)} {oc_signs kV_signs dc_signs pm_signs cd_signs ct_signs : Value}
    {od_row an_row : Option Addr} {sl_row : Array (Option Value)} {oc_row kV_row dc_row pm_row cd_row ct_row : Value}
    {od_images an_images : Option Addr} {sl_images : Array (Option Value)} {oc_images kV_images dc_images pm_images cd_images ct_images : Value}
    {od_image an_image : Option Addr} {sl_image : Array (Option Value)} {oc_image kV_image dc_image pm_image cd_image ct_image : Value}
    {od_seed an_seed : Option Addr} {sl_seed : Array (Option Value)} {oc_seed kV_seed dc_seed pm_seed cd_seed ct_seed : Value}
    {od_isseq an_isseq : Option Addr} {sl_isseq : Array (Option Value)} {oc_isseq kV_isseq dc_isseq pm_isseq cd_isseq ct_isseq : Value}
    {od_isletters an_isletters : Option Addr} {sl_isletters : Array (Option Value)} {oc_isletters kV_isletters dc_isletters pm_isletters cd_isletters ct_isletters : Value}
    {od_issigns an_issigns : Option Addr} {sl_issigns : Array (Option Value)} {oc_issigns kV_issigns dc_issigns pm_issigns cd_issigns ct_issigns : Value}
    {od_isrow an_isrow : Option Addr} {sl_isrow : Array (Option Value)} {oc_isrow kV_isrow dc_isrow pm_isrow cd_isrow ct_isrow : Value}
    {od_isrows an_isrows : Option Addr} {sl_isrows : Array (Option Value)} {oc_isrows kV_isrows dc_isrows pm_isrows cd_isrows ct_isrows : Value}
    {od_init an_init : Option Addr} {sl_init : Array (Option Value)} {oc_init kV_init dc_init pm_init cd_init ct_init : Value}
    {od_of an_of : Option Addr} {sl_of : Array (Option Value)} {oc_of kV_of dc_of pm_of cd_of ct_of : Value}
    {od_turned an_turned : Option Addr} {sl_turned : Array (Option Value)} {oc_turned kV_turned dc_turned pm_turned cd_turned ct_turned : Value}
    {od_mul an_mul : Option Addr} {sl_mul : Array (Option Value)} {oc_mul kV_mul dc_mul pm_mul cd_mul ct_mul : Value}
    {od_eq an_eq : Option Addr} {sl_eq : Array (Option Value)} {oc_eq kV_eq dc_eq pm_eq cd_eq ct_eq : Value}
    {od_law an_law : Option Addr} {sl_law : Array (Option Value)} {oc_law kV_law dc_law pm_law cd_law ct_law : Value}
    {tk_az : Tok}
    (q_az : PySem.W.nsIn K mainGlobals "_LETTERS" = some (some (.str (S az) tk_az)))
    (g_Change : PySem.W.nsIn K mainGlobals "Change" = some (some (.ref C_Change)))
    (pg_Change : PySem.W.plainGet K C_Change Str.empty = true)
    (hd_Change : PySem.W.hasDictIn K C_Change = true)
    (po_Change : PySem.W.plainOver K C_Change = true)
    (sa_Change : PySem.W.findIn K (.ref C_Change) "__setattr__" = some (some (.builtin "object.__setattr__")))
    (kc_Change : PySem.W.keepIn K (.ref C_Change) = true)
    (n_Change_signs : PySem.W.findIn K (.ref C_Change) "signs" = some none)
    (n_Change_rows : PySem.W.findIn K (.ref C_Change) "rows" = some none)
    (mk_Change : PySem.W.makesIn K C_Change = true)
    (ha_Change : PySem.W.findIn K (.ref C_Change) "__class__" = some (some (.builtin "object.__class__")))
    (hn_Change : PySem.W.specialIn K (.builtin "object.__class__") "__get__" = some (some (.builtin "getset_descriptor.__get__")))
    (tk_Change : PySem.W.takesIn K (.builtin "object.__class__") = some true)
    (hm_Change : PySem.W.mroIn K C_Change (.type "object") = some true)
    (ne_Change : PySem.W.findIn K (.ref C_Change) "__ne__" = some (some (.builtin "object.__ne__")))
    (sf_Change : PySem.W.selfFirst K C_Change = true)
    (a_choose : PySem.W.nsIn K mainGlobals "_law_choose" = some (some (.ref f_choose)))
    (l_choose : K.lookup f_choose = some ⟨oc_choose, od_choose, .func (PySem.W.fnOf "_law_choose" "_law_choose" (C8.fnArgs s_choose) (C8.fnBody s_choose) (C8.fnScope s_choose) .none kV_choose dc_choose pm_choose an_choose cd_choose ct_choose), sl_choose⟩)
    (c_choose : PySem.W.codeIn K cd_choose "_law_choose" = true)
    (k_choose : PySem.W.keepIn K (.ref f_choose) = true)
    (a_one_of : PySem.W.nsIn K mainGlobals "_law_one_of" = some (some (.ref f_one_of)))
    (l_one_of : K.lookup f_one_of = some ⟨oc_one_of, od_one_of, .func (PySem.W.fnOf "_law_one_of" "_law_one_of" (C8.fnArgs s_one_of) (C8.fnBody s_one_of) (C8.fnScope s_one_of) .none kV_one_of dc_one_of pm_one_of an_one_of cd_one_of ct_one_of), sl_one_of⟩)
    (c_one_of : PySem.W.codeIn K cd_one_of "_law_one_of" = true)
    (k_one_of : PySem.W.keepIn K (.ref f_one_of) = true)
    (a_signs : PySem.W.nsIn K mainGlobals "_law_signs" = some (some (.ref f_signs)))
    (l_signs : K.lookup f_signs = some ⟨oc_signs, od_signs, .func (PySem.W.fnOf "_law_signs" "_law_signs" (C8.fnArgs s_signs) (C8.fnBody s_signs) (C8.fnScope s_signs) .none kV_signs dc_signs pm_signs an_signs cd_signs ct_signs), sl_signs⟩)
    (c_signs : PySem.W.codeIn K cd_signs "_law_signs" = true)
    (k_signs : PySem.W.keepIn K (.ref f_signs) = true)
    (a_row : PySem.W.nsIn K mainGlobals "_law_row" = some (some (.ref f_row)))
    (l_row : K.lookup f_row = some ⟨oc_row, od_row, .func (PySem.W.fnOf "_law_row" "_law_row" (C8.fnArgs s_row) (C8.fnBody s_row) (C8.fnScope s_row) .none kV_row dc_row pm_row an_row cd_row ct_row), sl_row⟩)
    (c_row : PySem.W.codeIn K cd_row "_law_row" = true)
    (k_row : PySem.W.keepIn K (.ref f_row) = true)
    (a_images : PySem.W.nsIn K mainGlobals "_law_images" = some (some (.ref f_images)))
    (l_images : K.lookup f_images = some ⟨oc_images, od_images, .func (PySem.W.fnOf "_law_images" "_law_images" (C8.fnArgs s_images) (C8.fnBody s_images) (C8.fnScope s_images) .none kV_images dc_images pm_images an_images cd_images ct_images), sl_images⟩)
    (c_images : PySem.W.codeIn K cd_images "_law_images" = true)
    (k_images : PySem.W.keepIn K (.ref f_images) = true)
    (a_image : PySem.W.nsIn K mainGlobals "_law_image" = some (some (.ref f_image)))
    (l_image : K.lookup f_image = some ⟨oc_image, od_image, .func (PySem.W.fnOf "_law_image" "_law_image" (C8.fnArgs s_image) (C8.fnBody s_image) (C8.fnScope s_image) .none kV_image dc_image pm_image an_image cd_image ct_image), sl_image⟩)
    (c_image : PySem.W.codeIn K cd_image "_law_image" = true)
    (k_image : PySem.W.keepIn K (.ref f_image) = true)
    (a_seed : PySem.W.nsIn K mainGlobals "_law_seed" = some (some (.ref f_seed)))
    (l_seed : K.lookup f_seed = some ⟨oc_seed, od_seed, .func (PySem.W.fnOf "_law_seed" "_law_seed" (C8.fnArgs s_seed) (C8.fnBody s_seed) (C8.fnScope s_seed) .none kV_seed dc_seed pm_seed an_seed cd_seed ct_seed), sl_seed⟩)
    (c_seed : PySem.W.codeIn K cd_seed "_law_seed" = true)
    (k_seed : PySem.W.keepIn K (.ref f_seed) = true)
    (a_isseq : PySem.W.nsIn K mainGlobals "is_sequence" = some (some (.ref f_isseq)))
    (l_isseq : K.lookup f_isseq = some ⟨oc_isseq, od_isseq, .func (PySem.W.fnOf "is_sequence" "is_sequence" (C8.fnArgs s_isseq) (C8.fnBody s_isseq) (C8.fnScope s_isseq) .none kV_isseq dc_isseq pm_isseq an_isseq cd_isseq ct_isseq), sl_isseq⟩)
    (c_isseq : PySem.W.codeIn K cd_isseq "is_sequence" = true)
    (k_isseq : PySem.W.keepIn K (.ref f_isseq) = true)
    (a_isletters : PySem.W.nsIn K mainGlobals "is_letters" = some (some (.ref f_isletters)))
    (l_isletters : K.lookup f_isletters = some ⟨oc_isletters, od_isletters, .func (PySem.W.fnOf "is_letters" "is_letters" (C8.fnArgs s_isletters) (C8.fnBody s_isletters) (C8.fnScope s_isletters) .none kV_isletters dc_isletters pm_isletters an_isletters cd_isletters ct_isletters), sl_isletters⟩)
    (c_isletters : PySem.W.codeIn K cd_isletters "is_letters" = true)
    (k_isletters : PySem.W.keepIn K (.ref f_isletters) = true)
    (a_issigns : PySem.W.nsIn K mainGlobals "is_signs" = some (some (.ref f_issigns)))
    (l_issigns : K.lookup f_issigns = some ⟨oc_issigns, od_issigns, .func (PySem.W.fnOf "is_signs" "is_signs" (C8.fnArgs s_issigns) (C8.fnBody s_issigns) (C8.fnScope s_issigns) .none kV_issigns dc_issigns pm_issigns an_issigns cd_issigns ct_issigns), sl_issigns⟩)
    (c_issigns : PySem.W.codeIn K cd_issigns "is_signs" = true)
    (k_issigns : PySem.W.keepIn K (.ref f_issigns) = true)
    (a_isrow : PySem.W.nsIn K mainGlobals "is_row" = some (some (.ref f_isrow)))
    (l_isrow : K.lookup f_isrow = some ⟨oc_isrow, od_isrow, .func (PySem.W.fnOf "is_row" "is_row" (C8.fnArgs s_isrow) (C8.fnBody s_isrow) (C8.fnScope s_isrow) .none kV_isrow dc_isrow pm_isrow an_isrow cd_isrow ct_isrow), sl_isrow⟩)
    (c_isrow : PySem.W.codeIn K cd_isrow "is_row" = true)
    (k_isrow : PySem.W.keepIn K (.ref f_isrow) = true)
    (a_isrows : PySem.W.nsIn K mainGlobals "is_rows" = some (some (.ref f_isrows)))
    (l_isrows : K.lookup f_isrows = some ⟨oc_isrows, od_isrows, .func (PySem.W.fnOf "is_rows" "is_rows" (C8.fnArgs s_isrows) (C8.fnBody s_isrows) (C8.fnScope s_isrows) .none kV_isrows dc_isrows pm_isrows an_isrows cd_isrows ct_isrows), sl_isrows⟩)
    (c_isrows : PySem.W.codeIn K cd_isrows "is_rows" = true)
    (k_isrows : PySem.W.keepIn K (.ref f_isrows) = true)
    (a_init : PySem.W.findIn K (.ref C_Change) "__init__" = some (some (.ref f_init)))
    (i_init : PySem.W.isFn K (.ref f_init) = true)
    (l_init : K.lookup f_init = some ⟨oc_init, od_init, .func (PySem.W.fnOf "__init__" "Change.__init__" (C8.fnArgs s_init) (C8.fnBody s_init) (C8.fnScope s_init) .none kV_init dc_init pm_init an_init cd_init ct_init), sl_init⟩)
    (c_init : PySem.W.codeIn K cd_init "Change.__init__" = true)
    (k_init : PySem.W.keepIn K (.ref f_init) = true)
    (a_of : PySem.W.findIn K (.ref C_Change) "of" = some (some (.ref f_of)))
    (i_of : PySem.W.isFn K (.ref f_of) = true)
    (l_of : K.lookup f_of = some ⟨oc_of, od_of, .func (PySem.W.fnOf "of" "Change.of" (C8.fnArgs s_of) (C8.fnBody s_of) (C8.fnScope s_of) .none kV_of dc_of pm_of an_of cd_of ct_of), sl_of⟩)
    (c_of : PySem.W.codeIn K cd_of "Change.of" = true)
    (k_of : PySem.W.keepIn K (.ref f_of) = true)
    (a_turned : PySem.W.findIn K (.ref C_Change) "turned" = some (some (.ref f_turned)))
    (i_turned : PySem.W.isFn K (.ref f_turned) = true)
    (l_turned : K.lookup f_turned = some ⟨oc_turned, od_turned, .func (PySem.W.fnOf "turned" "Change.turned" (C8.fnArgs s_turned) (C8.fnBody s_turned) (C8.fnScope s_turned) .none kV_turned dc_turned pm_turned an_turned cd_turned ct_turned), sl_turned⟩)
    (c_turned : PySem.W.codeIn K cd_turned "Change.turned" = true)
    (k_turned : PySem.W.keepIn K (.ref f_turned) = true)
    (a_mul : PySem.W.findIn K (.ref C_Change) "__mul__" = some (some (.ref f_mul)))
    (i_mul : PySem.W.isFn K (.ref f_mul) = true)
    (l_mul : K.lookup f_mul = some ⟨oc_mul, od_mul, .func (PySem.W.fnOf "__mul__" "Change.__mul__" (C8.fnArgs s_mul) (C8.fnBody s_mul) (C8.fnScope s_mul) .none kV_mul dc_mul pm_mul an_mul cd_mul ct_mul), sl_mul⟩)
    (c_mul : PySem.W.codeIn K cd_mul "Change.__mul__" = true)
    (k_mul : PySem.W.keepIn K (.ref f_mul) = true)
    (a_eq : PySem.W.findIn K (.ref C_Change) "__eq__" = some (some (.ref f_eq)))
    (i_eq : PySem.W.isFn K (.ref f_eq) = true)
    (l_eq : K.lookup f_eq = some ⟨oc_eq, od_eq, .func (PySem.W.fnOf "__eq__" "Change.__eq__" (C8.fnArgs s_eq) (C8.fnBody s_eq) (C8.fnScope s_eq) .none kV_eq dc_eq pm_eq an_eq cd_eq ct_eq), sl_eq⟩)
    (c_eq : PySem.W.codeIn K cd_eq "Change.__eq__" = true)
    (k_eq : PySem.W.keepIn K (.ref f_eq) = true)
    (a_law : PySem.W.nsIn K mainGlobals "law" = some (some (.ref f_law)))
    (l_law : K.lookup f_law = some ⟨oc_law, od_law, .func (PySem.W.fnOf "law" "law" (C8.fnArgs s_law) (C8.fnBody s_law) (C8.fnScope s_law) .none kV_law dc_law pm_law an_law cd_law ct_law), sl_law⟩)
    (c_law : PySem.W.codeIn K cd_law "law" = true)
    (k_law : PySem.W.keepIn K (.ref f_law) = true)
    (z_int : PySem.W.nsIn K mainGlobals "int" = some none)
    (z_len : PySem.W.nsIn K mainGlobals "len" = some none)
    (z_abs : PySem.W.nsIn K mainGlobals "abs" = some none)
    (z_str : PySem.W.nsIn K mainGlobals "str" = some none)
    (z_list : PySem.W.nsIn K mainGlobals "list" = some none)
    (z_tuple : PySem.W.nsIn K mainGlobals "tuple" = some none)
    (z_isinstance : PySem.W.nsIn K mainGlobals "isinstance" = some none)
    (z_all : PySem.W.nsIn K mainGlobals "all" = some none)
    (z_zip : PySem.W.nsIn K mainGlobals "zip" = some none)
    (z_range : PySem.W.nsIn K mainGlobals "range" = some none)
    (z_max : PySem.W.nsIn K mainGlobals "max" = some none)
    (z_min : PySem.W.nsIn K mainGlobals "min" = some none) :
    ∃ fd : FuncData, (∀ (s : Shared) (v : Value), BindsTo s fd ⟨[v], []⟩ [("script", v)]) ∧ ∀ base : Heap, K.In base → base.Ns mainGlobals mg → FnOk l.prog w K mg base C8.CX0 7 fa fd ["script"] (spLaw K) := by
  have e := hfa.symm.trans (PySem.W.mg_of X G a_law)
  cases e
  have T : BT mg := ⟨PySem.W.mg_none_of X G z_int, PySem.W.mg_none_of X G z_len, PySem.W.mg_none_of X G z_abs, PySem.W.mg_none_of X G z_str, PySem.W.mg_none_of X G z_list, PySem.W.mg_none_of X G z_tuple, PySem.W.mg_none_of X G z_isinstance, PySem.W.mg_none_of X G z_all, PySem.W.mg_none_of X G z_zip, PySem.W.mg_none_of X G z_range, PySem.W.mg_none_of X G z_max, PySem.W.mg_none_of X G z_min⟩
  have mg_az := PySem.W.mg_of X G q_az
  have U_choose : C8.Fun K "_law_choose" "_law_choose" s_choose f_choose (PySem.W.fnOf "_law_choose" "_law_choose" (C8.fnArgs s_choose) (C8.fnBody s_choose) (C8.fnScope s_choose) .none kV_choose dc_choose pm_choose an_choose cd_choose ct_choose) := ⟨oc_choose, od_choose, .none, kV_choose, dc_choose, pm_choose, an_choose, cd_choose, ct_choose, sl_choose, rfl, l_choose, c_choose⟩
  have F_choose : C8.Def K mg "_law_choose" s_choose f_choose _ := ⟨U_choose, PySem.W.mg_of X G a_choose, k_choose⟩
  have b_choose := U_choose.binds rfl (ps := ["box", "many"]) fun _ _ _ _ _ _ us hl => match us, hl with | [_, _], _ => rfl
  have U_one_of : C8.Fun K "_law_one_of" "_law_one_of" s_one_of f_one_of (PySem.W.fnOf "_law_one_of" "_law_one_of" (C8.fnArgs s_one_of) (C8.fnBody s_one_of) (C8.fnScope s_one_of) .none kV_one_of dc_one_of pm_one_of an_one_of cd_one_of ct_one_of) := ⟨oc_one_of, od_one_of, .none, kV_one_of, dc_one_of, pm_one_of, an_one_of, cd_one_of, ct_one_of, sl_one_of, rfl, l_one_of, c_one_of⟩
  have F_one_of : C8.Def K mg "_law_one_of" s_one_of f_one_of _ := ⟨U_one_of, PySem.W.mg_of X G a_one_of, k_one_of⟩
  have b_one_of := U_one_of.binds rfl (ps := ["box", "some"]) fun _ _ _ _ _ _ us hl => match us, hl with | [_, _], _ => rfl
  have U_signs : C8.Fun K "_law_signs" "_law_signs" s_signs f_signs (PySem.W.fnOf "_law_signs" "_law_signs" (C8.fnArgs s_signs) (C8.fnBody s_signs) (C8.fnScope s_signs) .none kV_signs dc_signs pm_signs an_signs cd_signs ct_signs) := ⟨oc_signs, od_signs, .none, kV_signs, dc_signs, pm_signs, an_signs, cd_signs, ct_signs, sl_signs, rfl, l_signs, c_signs⟩
  have F_signs : C8.Def K mg "_law_signs" s_signs f_signs _ := ⟨U_signs, PySem.W.mg_of X G a_signs, k_signs⟩
  have b_signs := U_signs.binds rfl (ps := ["box"]) fun _ _ _ _ _ _ us hl => match us, hl with | [_], _ => rfl
  have U_row : C8.Fun K "_law_row" "_law_row" s_row f_row (PySem.W.fnOf "_law_row" "_law_row" (C8.fnArgs s_row) (C8.fnBody s_row) (C8.fnScope s_row) .none kV_row dc_row pm_row an_row cd_row ct_row) := ⟨oc_row, od_row, .none, kV_row, dc_row, pm_row, an_row, cd_row, ct_row, sl_row, rfl, l_row, c_row⟩
  have F_row : C8.Def K mg "_law_row" s_row f_row _ := ⟨U_row, PySem.W.mg_of X G a_row, k_row⟩
  have b_row := U_row.binds rfl (ps := ["box", "signs", "most"]) fun _ _ _ _ _ _ us hl => match us, hl with | [_, _, _], _ => rfl
  have U_images : C8.Fun K "_law_images" "_law_images" s_images f_images (PySem.W.fnOf "_law_images" "_law_images" (C8.fnArgs s_images) (C8.fnBody s_images) (C8.fnScope s_images) .none kV_images dc_images pm_images an_images cd_images ct_images) := ⟨oc_images, od_images, .none, kV_images, dc_images, pm_images, an_images, cd_images, ct_images, sl_images, rfl, l_images, c_images⟩
  have F_images : C8.Def K mg "_law_images" s_images f_images _ := ⟨U_images, PySem.W.mg_of X G a_images, k_images⟩
  have b_images := U_images.binds rfl (ps := ["box", "signs", "most"]) fun _ _ _ _ _ _ us hl => match us, hl with | [_, _, _], _ => rfl
  have U_image : C8.Fun K "_law_image" "_law_image" s_image f_image (PySem.W.fnOf "_law_image" "_law_image" (C8.fnArgs s_image) (C8.fnBody s_image) (C8.fnScope s_image) .none kV_image dc_image pm_image an_image cd_image ct_image) := ⟨oc_image, od_image, .none, kV_image, dc_image, pm_image, an_image, cd_image, ct_image, sl_image, rfl, l_image, c_image⟩
  have F_image : C8.Def K mg "_law_image" s_image f_image _ := ⟨U_image, PySem.W.mg_of X G a_image, k_image⟩
  have b_image := U_image.binds rfl (ps := ["signs", "images", "row"]) fun _ _ _ _ _ _ us hl => match us, hl with | [_, _, _], _ => rfl
  have U_seed : C8.Fun K "_law_seed" "_law_seed" s_seed f_seed (PySem.W.fnOf "_law_seed" "_law_seed" (C8.fnArgs s_seed) (C8.fnBody s_seed) (C8.fnScope s_seed) .none kV_seed dc_seed pm_seed an_seed cd_seed ct_seed) := ⟨oc_seed, od_seed, .none, kV_seed, dc_seed, pm_seed, an_seed, cd_seed, ct_seed, sl_seed, rfl, l_seed, c_seed⟩
  have F_seed : C8.Def K mg "_law_seed" s_seed f_seed _ := ⟨U_seed, PySem.W.mg_of X G a_seed, k_seed⟩
  have b_seed := U_seed.binds rfl (ps := ["script", "k"]) fun _ _ _ _ _ _ us hl => match us, hl with | [_, _], _ => rfl
  have U_isseq : C8.Fun K "is_sequence" "is_sequence" s_isseq f_isseq (PySem.W.fnOf "is_sequence" "is_sequence" (C8.fnArgs s_isseq) (C8.fnBody s_isseq) (C8.fnScope s_isseq) .none kV_isseq dc_isseq pm_isseq an_isseq cd_isseq ct_isseq) := ⟨oc_isseq, od_isseq, .none, kV_isseq, dc_isseq, pm_isseq, an_isseq, cd_isseq, ct_isseq, sl_isseq, rfl, l_isseq, c_isseq⟩
  have F_isseq : C8.Def K mg "is_sequence" s_isseq f_isseq _ := ⟨U_isseq, PySem.W.mg_of X G a_isseq, k_isseq⟩
  have b_isseq := U_isseq.binds rfl (ps := ["value"]) fun _ _ _ _ _ _ us hl => match us, hl with | [_], _ => rfl
  have U_isletters : C8.Fun K "is_letters" "is_letters" s_isletters f_isletters (PySem.W.fnOf "is_letters" "is_letters" (C8.fnArgs s_isletters) (C8.fnBody s_isletters) (C8.fnScope s_isletters) .none kV_isletters dc_isletters pm_isletters an_isletters cd_isletters ct_isletters) := ⟨oc_isletters, od_isletters, .none, kV_isletters, dc_isletters, pm_isletters, an_isletters, cd_isletters, ct_isletters, sl_isletters, rfl, l_isletters, c_isletters⟩
  have F_isletters : C8.Def K mg "is_letters" s_isletters f_isletters _ := ⟨U_isletters, PySem.W.mg_of X G a_isletters, k_isletters⟩
  have b_isletters := U_isletters.binds rfl (ps := ["value"]) fun _ _ _ _ _ _ us hl => match us, hl with | [_], _ => rfl
  have U_issigns : C8.Fun K "is_signs" "is_signs" s_issigns f_issigns (PySem.W.fnOf "is_signs" "is_signs" (C8.fnArgs s_issigns) (C8.fnBody s_issigns) (C8.fnScope s_issigns) .none kV_issigns dc_issigns pm_issigns an_issigns cd_issigns ct_issigns) := ⟨oc_issigns, od_issigns, .none, kV_issigns, dc_issigns, pm_issigns, an_issigns, cd_issigns, ct_issigns, sl_issigns, rfl, l_issigns, c_issigns⟩
  have F_issigns : C8.Def K mg "is_signs" s_issigns f_issigns _ := ⟨U_issigns, PySem.W.mg_of X G a_issigns, k_issigns⟩
  have b_issigns := U_issigns.binds rfl (ps := ["value"]) fun _ _ _ _ _ _ us hl => match us, hl with | [_], _ => rfl
  have U_isrow : C8.Fun K "is_row" "is_row" s_isrow f_isrow (PySem.W.fnOf "is_row" "is_row" (C8.fnArgs s_isrow) (C8.fnBody s_isrow) (C8.fnScope s_isrow) .none kV_isrow dc_isrow pm_isrow an_isrow cd_isrow ct_isrow) := ⟨oc_isrow, od_isrow, .none, kV_isrow, dc_isrow, pm_isrow, an_isrow, cd_isrow, ct_isrow, sl_isrow, rfl, l_isrow, c_isrow⟩
  have F_isrow : C8.Def K mg "is_row" s_isrow f_isrow _ := ⟨U_isrow, PySem.W.mg_of X G a_isrow, k_isrow⟩
  have b_isrow := U_isrow.binds rfl (ps := ["value", "signs"]) fun _ _ _ _ _ _ us hl => match us, hl with | [_, _], _ => rfl
  have U_isrows : C8.Fun K "is_rows" "is_rows" s_isrows f_isrows (PySem.W.fnOf "is_rows" "is_rows" (C8.fnArgs s_isrows) (C8.fnBody s_isrows) (C8.fnScope s_isrows) .none kV_isrows dc_isrows pm_isrows an_isrows cd_isrows ct_isrows) := ⟨oc_isrows, od_isrows, .none, kV_isrows, dc_isrows, pm_isrows, an_isrows, cd_isrows, ct_isrows, sl_isrows, rfl, l_isrows, c_isrows⟩
  have F_isrows : C8.Def K mg "is_rows" s_isrows f_isrows _ := ⟨U_isrows, PySem.W.mg_of X G a_isrows, k_isrows⟩
  have b_isrows := U_isrows.binds rfl (ps := ["value", "signs"]) fun _ _ _ _ _ _ us hl => match us, hl with | [_, _], _ => rfl
  have U_init : C8.Fun K "__init__" "Change.__init__" s_init f_init (PySem.W.fnOf "__init__" "Change.__init__" (C8.fnArgs s_init) (C8.fnBody s_init) (C8.fnScope s_init) .none kV_init dc_init pm_init an_init cd_init ct_init) := ⟨oc_init, od_init, .none, kV_init, dc_init, pm_init, an_init, cd_init, ct_init, sl_init, rfl, l_init, c_init⟩
  have me_init : Meth K C_Change "__init__" f_init := ⟨a_init, i_init, k_init⟩
  have b_init := U_init.binds rfl (ps := ["self", "signs", "rows"]) fun _ _ _ _ _ _ us hl => match us, hl with | [_, _, _], _ => rfl
  have U_of : C8.Fun K "of" "Change.of" s_of f_of (PySem.W.fnOf "of" "Change.of" (C8.fnArgs s_of) (C8.fnBody s_of) (C8.fnScope s_of) .none kV_of dc_of pm_of an_of cd_of ct_of) := ⟨oc_of, od_of, .none, kV_of, dc_of, pm_of, an_of, cd_of, ct_of, sl_of, rfl, l_of, c_of⟩
  have me_of : Meth K C_Change "of" f_of := ⟨a_of, i_of, k_of⟩
  have b_of := U_of.binds rfl (ps := ["self", "row"]) fun _ _ _ _ _ _ us hl => match us, hl with | [_, _], _ => rfl
  have U_turned : C8.Fun K "turned" "Change.turned" s_turned f_turned (PySem.W.fnOf "turned" "Change.turned" (C8.fnArgs s_turned) (C8.fnBody s_turned) (C8.fnScope s_turned) .none kV_turned dc_turned pm_turned an_turned cd_turned ct_turned) := ⟨oc_turned, od_turned, .none, kV_turned, dc_turned, pm_turned, an_turned, cd_turned, ct_turned, sl_turned, rfl, l_turned, c_turned⟩
  have me_turned : Meth K C_Change "turned" f_turned := ⟨a_turned, i_turned, k_turned⟩
  have b_turned := U_turned.binds rfl (ps := ["self"]) fun _ _ _ _ _ _ us hl => match us, hl with | [_], _ => rfl
  have U_mul : C8.Fun K "__mul__" "Change.__mul__" s_mul f_mul (PySem.W.fnOf "__mul__" "Change.__mul__" (C8.fnArgs s_mul) (C8.fnBody s_mul) (C8.fnScope s_mul) .none kV_mul dc_mul pm_mul an_mul cd_mul ct_mul) := ⟨oc_mul, od_mul, .none, kV_mul, dc_mul, pm_mul, an_mul, cd_mul, ct_mul, sl_mul, rfl, l_mul, c_mul⟩
  have me_mul : Meth K C_Change "__mul__" f_mul := ⟨a_mul, i_mul, k_mul⟩
  have b_mul := U_mul.binds rfl (ps := ["self", "other"]) fun _ _ _ _ _ _ us hl => match us, hl with | [_, _], _ => rfl
  have U_eq : C8.Fun K "__eq__" "Change.__eq__" s_eq f_eq (PySem.W.fnOf "__eq__" "Change.__eq__" (C8.fnArgs s_eq) (C8.fnBody s_eq) (C8.fnScope s_eq) .none kV_eq dc_eq pm_eq an_eq cd_eq ct_eq) := ⟨oc_eq, od_eq, .none, kV_eq, dc_eq, pm_eq, an_eq, cd_eq, ct_eq, sl_eq, rfl, l_eq, c_eq⟩
  have me_eq : Meth K C_Change "__eq__" f_eq := ⟨a_eq, i_eq, k_eq⟩
  have b_eq := U_eq.binds rfl (ps := ["self", "other"]) fun _ _ _ _ _ _ us hl => match us, hl with | [_, _], _ => rfl
  have U_law : C8.Fun K "law" "law" s_law fa (PySem.W.fnOf "law" "law" (C8.fnArgs s_law) (C8.fnBody s_law) (C8.fnScope s_law) .none kV_law dc_law pm_law an_law cd_law ct_law) := ⟨oc_law, od_law, .none, kV_law, dc_law, pm_law, an_law, cd_law, ct_law, sl_law, rfl, l_law, c_law⟩
  have F_law : C8.Def K mg "law" s_law fa _ := ⟨U_law, PySem.W.mg_of X G a_law, k_law⟩
  have b_law := U_law.binds rfl (ps := ["script"]) fun _ _ _ _ _ _ us hl => match us, hl with | [_], _ => rfl
  have Cl_Change : Cls K C_Change := ⟨pg_Change, hd_Change, po_Change, sa_Change⟩
  have mg_Change := PySem.W.mg_of X G g_Change
  have M_Change : Mk K C_Change f_init := ⟨mk_Change, a_init, i_init, kc_Change⟩
  have I_Change : C8.InsC K C_Change := ⟨Cl_Change, ha_Change, hn_Change, tk_Change, hm_Change, if_pos (beq_self_eq_true _)⟩
  have N_Change : NeC K C_Change := ⟨ne_Change, hm_Change, sf_Change⟩
  refine ⟨PySem.W.fnOf "law" "law" (C8.fnArgs s_law) (C8.fnBody s_law) (C8.fnScope s_law) .none kV_law dc_law pm_law an_law cd_law ct_law, fun s v => .of_eq rfl, fun base _ _ => ?_⟩
  have CH : CC K C_Change := ⟨Cl_Change, n_Change_signs, n_Change_rows⟩
  have c_choose := ok_choose (P := l.prog) (w := w) (base := base) T F_choose b_choose
  have c_one := ok_one T c_choose F_one_of b_one_of
  have c_signs := ok_signs T c_one F_signs b_signs
  have c_row := ok_row T c_choose c_one F_row b_row
  have c_images := ok_images T c_choose c_one c_row F_images b_images
  have c_image := ok_image (P := l.prog) (w := w) (base := base) T F_image b_image
  have c_seed := ok_seed (P := l.prog) (w := w) (base := base) T F_seed b_seed
  have c_isseq := ok_isseq (P := l.prog) (w := w) (base := base) T F_isseq b_isseq
  have c_isrow := ok_isrow (P := l.prog) (w := w) (base := base) T F_isrow b_isrow
  have c_isletters := ok_isletters T mg_az c_isrow F_isletters b_isletters
  have c_issigns := ok_issigns T c_isletters F_issigns b_issigns
  have c_isrows := ok_isrows T c_isseq c_isrow F_isrows b_isrows
  have c_Change := ok_init T CH c_issigns c_isrows M_Change mg_Change U_init b_init
  have c_of := ok_of (P := l.prog) (w := w) (base := base) T CH me_of U_of b_of
  have c_turned := ok_turned T CH c_Change me_turned U_turned b_turned
  have c_mul := ok_mul T CH I_Change mg_Change c_of c_Change me_mul U_mul b_mul
  have c_eq := ok_eq (P := l.prog) (w := w) (base := base) T CH I_Change mg_Change me_eq U_eq b_eq
  exact ok_law T CH N_Change c_seed c_signs c_row c_images c_image c_Change c_of c_turned c_mul c_eq F_law
theorem walk {l : PySem.W.OpenLaw} {q : Program} {loose : List Str} {XP : (Str → Option Value) → Heap → Prop} {YP : World → Heap → Prop} {d : DefRec} {K : Params → PySem.W.Frag} (hn : l.most = some 63) (hdf : d.params.defaults = [])
    (hY : ∀ (w : World) (h : Heap), YP w h → (K w.params).In h)
    (F : ∀ (w : World) (mg : Str → Option Value) (fa : Addr) (h : Heap), (K w.params).In h → h.Ns mainGlobals mg → mg d.name = some (.ref fa) →
      ∃ fd : FuncData, (∀ (s : Shared) (u : Value), BindsTo s fd ⟨[u], []⟩ [("script", u)]) ∧ ∀ base : Heap, (K w.params).In base → base.Ns mainGlobals mg → FnOk l.prog w (K w.params) mg base C8.CX0 7 fa fd ["script"] (spLaw (K w.params))) :
    PySem.W.WalkO q loose XP YP l.row.toRowW d [] (fun f vs => PySem.call f vs) :=
  L2.walk_of (n := 63) (k := 7) (x := "script") (CX := fun _ => C8.CX0) (sp := fun w => spLaw (K w.params)) hn (by decide) hdf ⟨rfl, by decide, by decide⟩ hY F (fun _ _ a ns hl _ hS => ⟨a, ns, rfl, hS, hl, fun _ => rfl⟩) fun _ _ _ _ _ z => z
end Toy
open PySem PySem.W PyProof.Rows in
set_option maxRecDepth 100000 in
set_option maxHeartbeats 0 in
theorem PySem.Challenge.cw_allrows_k03_changes_done_one_behind_anot_holds : PySem.Challenge.rw_allrows_k03_changes_done_one_behind_anot.Holds := by
  w_on; o_law; k_head; (case hw => w_witness2)
  k_fill
  refine Toy.walk (l := PySem.Challenge.rw_allrows_k03_changes_done_one_behind_anot) rfl rfl (fun w h Y => PySem.W.kIn_of Y) ?F
  case F =>
    intro w mg fa h KX G hmg
    refine' Toy.all_mk KX G hmg ?q_az ?g_Change ?pg_Change ?hd_Change ?po_Change ?sa_Change ?kc_Change ?n_Change_signs ?n_Change_rows ?mk_Change ?ha_Change ?hn_Change ?tk_Change ?hm_Change ?ne_Change ?sf_Change ?a_choose ?l_choose ?c_choose ?k_choose ?a_one_of ?l_one_of ?c_one_of ?k_one_of ?a_signs ?l_signs ?c_signs ?k_signs ?a_row ?l_row ?c_row ?k_row ?a_images ?l_images ?c_images ?k_images ?a_image ?l_image ?c_image ?k_image ?a_seed ?l_seed ?c_seed ?k_seed ?a_isseq ?l_isseq ?c_isseq ?k_isseq ?a_isletters ?l_isletters ?c_isletters ?k_isletters ?a_issigns ?l_issigns ?c_issigns ?k_issigns ?a_isrow ?l_isrow ?c_isrow ?k_isrow ?a_isrows ?l_isrows ?c_isrows ?k_isrows ?a_init ?i_init ?l_init ?c_init ?k_init ?a_of ?i_of ?l_of ?c_of ?k_of ?a_turned ?i_turned ?l_turned ?c_turned ?k_turned ?a_mul ?i_mul ?l_mul ?c_mul ?k_mul ?a_eq ?i_eq ?l_eq ?c_eq ?k_eq ?a_law ?l_law ?c_law ?k_law ?z_int ?z_len ?z_abs ?z_str ?z_list ?z_tuple ?z_isinstance ?z_all ?z_zip ?z_range ?z_max ?z_min
    (case q_az => k_is)
    (case g_Change => k_is)
    (case pg_Change => k_is)
    (case hd_Change => k_is)
    (case po_Change => k_is)
    (case sa_Change => k_is)
    (case kc_Change => k_is)
    (case n_Change_signs => k_is)
    (case n_Change_rows => k_is)
    (case mk_Change => k_is)
    (case ha_Change => k_is)
    (case hn_Change => k_is)
    (case tk_Change => k_is)
    (case hm_Change => k_is)
    (case ne_Change => k_is)
    (case sf_Change => k_is)
    (case a_choose => k_is)
    (case l_choose => k_is)
    (case c_choose => k_is)
    (case k_choose => k_is)
    (case a_one_of => k_is)
    (case l_one_of => k_is)
    (case c_one_of => k_is)
    (case k_one_of => k_is)
    (case a_signs => k_is)
    (case l_signs => k_is)
    (case c_signs => k_is)
    (case k_signs => k_is)
    (case a_row => k_is)
    (case l_row => k_is)
    (case c_row => k_is)
    (case k_row => k_is)
    (case a_images => k_is)
    (case l_images => k_is)
    (case c_images => k_is)
    (case k_images => k_is)
    (case a_image => k_is)
    (case l_image => k_is)
    (case c_image => k_is)
    (case k_image => k_is)
    (case a_seed => k_is)
    (case l_seed => k_is)
    (case c_seed => k_is)
    (case k_seed => k_is)
    (case a_isseq => k_is)
    (case l_isseq => k_is)
    (case c_isseq => k_is)
    (case k_isseq => k_is)
    (case a_isletters => k_is)
    (case l_isletters => k_is)
    (case c_isletters => k_is)
    (case k_isletters => k_is)
    (case a_issigns => k_is)
    (case l_issigns => k_is)
    (case c_issigns => k_is)
    (case k_issigns => k_is)
    (case a_isrow => k_is)
    (case l_isrow => k_is)
    (case c_isrow => k_is)
    (case k_isrow => k_is)
    (case a_isrows => k_is)
    (case l_isrows => k_is)
    (case c_isrows => k_is)
    (case k_isrows => k_is)
    (case a_init => k_is)
    (case i_init => k_is)
    (case l_init => k_is)
    (case c_init => k_is)
    (case k_init => k_is)
    (case a_of => k_is)
    (case i_of => k_is)
    (case l_of => k_is)
    (case c_of => k_is)
    (case k_of => k_is)
    (case a_turned => k_is)
    (case i_turned => k_is)
    (case l_turned => k_is)
    (case c_turned => k_is)
    (case k_turned => k_is)
    (case a_mul => k_is)
    (case i_mul => k_is)
    (case l_mul => k_is)
    (case c_mul => k_is)
    (case k_mul => k_is)
    (case a_eq => k_is)
    (case i_eq => k_is)
    (case l_eq => k_is)
    (case c_eq => k_is)
    (case k_eq => k_is)
    (case a_law => k_is)
    (case l_law => k_is)
    (case c_law => k_is)
    (case k_law => k_is)
    (case z_int => k_is)
    (case z_len => k_is)
    (case z_abs => k_is)
    (case z_str => k_is)
    (case z_list => k_is)
    (case z_tuple => k_is)
    (case z_isinstance => k_is)
    (case z_all => k_is)
    (case z_zip => k_is)
    (case z_range => k_is)
    (case z_max => k_is)
    (case z_min => k_is)
