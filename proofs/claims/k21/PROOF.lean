import PyProof.Rows.All
import Wide.All
import OpenK.AllK
import Wide.FinOn
import HandS.ForMost
import HandS.OwnEq
import HandS.IsInst
import HandS.Codes
import HandS.Wide
import HandS.Replace
import HandS.NoneIn
import HandS.Flow
import HandS.Style
import KE.GoesZip
import KE.GoesMore
import KE.GoesEnum
import HandS.Walk
import HandS.StrMore
import KE.KDictZip
import HandS.DictComp
import HandS.Strs
import HandS.CallLocal
import HandS.NestedK
import HandS.FStr
import HandS.Star
import KE.KCallOwn
import HandS.EndTab
import HandS.Dict
import HandS.ExcValue
import HandS.RaiseMore
import HandS.Conv
import PySem.Challenge.RW_allrows_k21_acts_of_rows
set_option Elab.async false
set_option linter.all false
set_option maxRecDepth 100000
namespace LX
open PySem PySem.Spec PyProof.Rows L2 C8 SX
section
variable {X : Cx}
theorem call_list_str (hc : X.calm = true) : CallR X (.type "list") (fun (xs : List V) (H : Hp) (Q : VK) => ∃ l : List Nat, xs = [V.str (S l)] ∧ l.length ≤ sizeLine ∧ ∀ p, H p = none → Q (.ref p) (upd H p (.lst (l.map fun c => V.str (S [c]))))) := by
  intro pins s σ H xs us Q I r h
  obtain ⟨l, rfl, hl, q⟩ := h
  obtain ⟨u, rfl, ru⟩ := vals1 r
  obtain ⟨t, rfl⟩ := ru
  refine PySem.call_list_str (I.ok.hd hc) (S l) t (fun h' tk acc' c' hk hS hacc => ?_) (by simpa [S] using hl)
  have hv : Vals (l.map fun c => V.str (S [c])) acc'.toList := by
    obtain ⟨hsz, hit⟩ := hacc
    have hsz' : acc'.toList.length = l.length := by simpa using hsz
    have gen : ∀ (m : List Nat) (as : List Value), as.length = m.length → (∀ (j : Nat) (v : Value), as[j]? = some v → ∃ (c : Nat) (u : Tok), m[j]? = some c ∧ v = Value.str ⟨#[c]⟩ u) → Vals (m.map fun c => V.str (S [c])) as := by
      intro m
      induction m with
      | nil => intro as ha _; cases as with
        | nil => exact .nil
        | cons a as => cases ha
      | cons c m ih => intro as ha hh; cases as with
        | nil => cases ha
        | cons a as =>
          obtain ⟨c', u, e1, e2⟩ := hh 0 a rfl
          have : c = c' := Option.some.inj e1
          subst this
          exact .cons ⟨u, e2⟩ (ih as (Nat.succ.inj ha) fun j v e => hh (j + 1) v e)
    refine gen l acc'.toList hsz' fun j v e => ?_
    obtain ⟨c, u, e1, e2⟩ := hit j v (by simpa using e)
    exact ⟨c, u, by simpa [S] using e1, e2⟩
  refine ⟨.ref _, _, I.laid (t' := tk) (o := .lst (l.map fun c => V.str (S [c]))) hk (Nat.le_refl _) ⟨by simpa using hl, acc'.toList, c', hv, by simpa using hS⟩, rfl, q _ (I.hok.fresh (Nat.le_refl _))⟩
theorem op_mul_si : OpR X (binaryOp .Mult) (fun x y H Q => ∃ (z : Str) (k : Int), x = .str z ∧ y = .int k ∧ (k = 0 ∨ k = 1) ∧ Q (.str (if k = 0 then S [] else z)) H) := by
  intro pins s σ H x y v u Q I rx ry h
  obtain ⟨z, k, rfl, rfl, hk, q⟩ := h
  obtain ⟨t, rfl⟩ := rx
  obtain ⟨t', rfl⟩ := ry
  rcases hk with rfl | rfl
  · exact PySem.P.mul_str_none (by decide) (by decide) ⟨.str (S []), H, I.tok _, ⟨_, rfl⟩, q⟩
  · refine PySem.P.mul_str (by decide) (fun _ h => by simp at h) (fun _ h => by simp at h) ?_
    rw [if_neg (by decide), if_pos (by simp)]
    exact ⟨.str z, H, I, ⟨t, rfl⟩, q⟩
def tRevS (te ts : TE) : TE := fun σ H Q => te σ H fun x H1 => ts σ H1 fun y H2 => ∃ i, y = .int i ∧ (some i = some (-1) ∧ ∃ l : List Nat, x = .str (S l) ∧ l.length ≤ sizeLine ∧ Q (.str (S l.reverse)) H2)
theorem rev_indices (z : Str) : (Builtin.Str.strSliceIndices none none (-1) z.length).filterMap (z.cps[·]?) = z.cps.toList.reverse := by
  have e : Builtin.Str.strSliceIndices none none (-1) z.length = (List.range z.length).reverse := by
    show sliceRange ((z.length : Int) - 1) (-1) (-1) = _
    rw [PySem.W.krv_sliceRange]
    exact PySem.W.krv_range _
  rw [e, List.filterMap_reverse]
  exact congrArg List.reverse (PySem.W.krv_all z.cps)
theorem pe_revS {e st : Expr} {te ts : TE} {p3 pos : Pos} (he : PE X e te) (hs : PE X st ts) : PE X (.Subscript e (.Slice none none (some st) p3) pos) (tRevS te ts) := by
  refine ⟨fun pins s σ H Q I h => ?_⟩
  refine Subscript_ (thn (he.run pins s σ H _ I h) fun v s1 ⟨x, H1, I1, r1, q1⟩ => ?_)
  have hst : PO X (some st) (tPart ts) := po_some hs
  refine wpAny_Slice (thn (po_none.run pins s1 σ H1 (fun o H2 => o = none ∧ H2 = H1) I1 ⟨rfl, rfl⟩) fun vl s2 ⟨l, H2, I2, pl, el, e2⟩ => ?_)
  subst el e2
  refine thn (po_none.run pins s2 σ H2 (fun o H3 => o = none ∧ H3 = H2) I2 ⟨rfl, rfl⟩) fun vu s3 ⟨u, H3, I3, pu, eu, e3⟩ => ?_
  subst eu e3
  refine thn (hst.run pins s3 σ H3 (fun o H4 => o = some (-1) ∧ ∃ l : List Nat, x = .str (S l) ∧ l.length ≤ sizeLine ∧ Q (.str (S l.reverse)) H4) I3 q1) fun vs s4 ⟨o, H4, I4, ps, eo, l, ex, hl, q⟩ => ?_
  subst eo ex
  obtain ⟨t, rfl⟩ := r1
  have I5 : Inv X pins σ H4 { s4 with heap := s4.heap.push { cls := .type "slice", data := .fields #[vl, vu, vs] } } := I4.kept (t' := s4.toks) fun b ob q => Heap.get?_push_of_some _ q
  show wpAny (model X.prog X.w) X.A (subscriptTail e (.Slice none none (some st) p3) (.str (S l) t) (.ref s4.heap.objs.size)) (EP X pins σ Q) X.xe { s4 with heap := s4.heap.push { cls := .type "slice", data := .fields #[vl, vu, vs] } }
  obtain ⟨l', el, el2⟩ := IsPart.raw pl
  obtain ⟨u', eu, eu2⟩ := IsPart.raw pu
  obtain ⟨s', es, es2⟩ := IsPart.raw ps
  refine tail_any (ops := [.ref s4.heap.objs.size, .str (S l) t]) (typeIs_str _ _ _) F.slot_str_getitem.lookup ?_ (by with_unfolding_all rfl)
  refine wpAny_getItem_str_slice (l := l') (u := u') (st := s') ?_ (by rw [es2]; rfl) ?_
  · rw [el, eu, es]
    exact Heap.IsSliceOf.new ..
  · unfold sliceMade slicePicked
    rw [el2, eu2, es2]
    show Made.post (if ((-1 : Int) == 1 && (Builtin.Str.strSliceIndices none none (-1) (S l).length).length == (S l).length) = true then Made.val (.str (S l) t)
      else Made.str ⟨((Builtin.Str.strSliceIndices none none (-1) (S l).length).filterMap ((S l).cps[·]?)).toArray⟩) (EP X pins σ Q) _
    rw [if_neg (by simp), rev_indices]
    exact ⟨by simpa [Str.length] using hl, .str _, H4, I5.tok _, ⟨_, rfl⟩, q⟩
end
end LX
namespace LX
open PySem PySem.Spec PyProof.Rows L2 C8 SX
inductive Sr where
  | txt (x : Str) | lst (a : Addr) | tup (a : Addr)
def Sr.fp : Sr → List Addr
  | .txt _ => [] | .lst a => [a] | .tup a => [a]
def Sr.has (K : PySem.W.Frag) : Sr → Nat → Hp → Prop
  | .txt x, i, _ => i < x.cps.size
  | .lst a, i, H => ∃ xs, SqL K H a xs ∧ i < xs.length
  | .tup a, i, H => ∃ xs, SqT K H a xs ∧ i < xs.length
def Sr.val (K : PySem.W.Frag) : Sr → Nat → Hp → V → Prop
  | .txt x, i, _, v => ∃ c, x.cps[i]? = some c ∧ v = .str ⟨#[c]⟩
  | .lst a, i, H, v => ∀ xs, SqL K H a xs → xs[i]? = some v
  | .tup a, i, H, v => ∀ xs, SqT K H a xs → xs[i]? = some v
def Sr.upto (K : PySem.W.Frag) : Sr → Nat → Hp → Prop
  | .txt x, i, _ => i ≤ x.cps.size
  | .lst a, i, H => ∃ xs, SqL K H a xs ∧ i ≤ xs.length
  | .tup a, i, H => ∃ xs, SqT K H a xs ∧ i ≤ xs.length
def Sr.ends (K : PySem.W.Frag) : Sr → Nat → Hp → Prop
  | .txt x, i, _ => i = x.cps.size
  | .lst a, i, H => ∃ xs, SqL K H a xs ∧ i = xs.length
  | .tup a, i, H => ∃ xs, SqT K H a xs ∧ i = xs.length
def Sr.tn : Sr → Addr → Nat → Heap → Prop
  | .txt x, it, i, h => ∃ t, h.IsStrIter it (strIterType x) x t i
  | .lst a, it, i, h => h.IsListIter it a i
  | .tup a, it, i, h => h.IsTupleIter it a i
theorem Sr.tn_obj : ∀ {S : Sr} {it : Addr} {i : Nat} {h : Heap}, S.tn it i h → ∃ o, h.get? it = some o ∧ ∀ v, o.data ≠ .cell v
  | .txt _, _, _, _, ⟨_, o, e, _, d⟩ => ⟨o, e, fun v q => by rw [d] at q; cases q⟩
  | .lst _, _, _, _, h => let ⟨o, e, _, d⟩ := h; ⟨o, e, fun v q => by rw [d] at q; cases q⟩
  | .tup _, _, _, _, ⟨o, e, _, d⟩ => ⟨o, e, fun v q => by rw [d] at q; cases q⟩
theorem Sr.tn_keep : ∀ {S : Sr} {it : Addr} {i : Nat} {h h' : Heap}, S.tn it i h → (∀ o, h.get? it = some o → h'.get? it = some o) → S.tn it i h'
  | .txt _, _, _, _, _, ⟨t, o, e, r⟩, k => ⟨t, o, k o e, r⟩
  | .lst _, _, _, _, _, h, k => h.at k
  | .tup _, _, _, _, _, h, k => h.at k
section
variable {X : Cx} {pins : List (Addr × Obj)} {σ : L2.St} {H : Hp} {s : Shared}
structure DrawsAt (X : Cx) (S : Sr) (H : Hp) (s : Shared) (it : Addr) (i : Nat) (n : Nat) : Prop where
  ex : ∃ (Pp : Nat → Value → Prop) (St : Nat → Heap → Prop), (∀ A : Around, A.handled = none → Draws X.prog X.w A it (it :: S.fp) n Pp St) ∧ St i s.heap ∧
    (∀ u, Pp i u → ∃ v, S.val X.K i H v ∧ RelV v u) ∧ ∀ j h', St j h' → S.tn it j h'
theorem Sr.draws (S : Sr) {it : Addr} {i : Nat} (I : Inv X pins σ H s) (hit : ∀ a ∈ S.fp, a ≠ it) (st : S.tn it i s.heap) (hu : S.upto X.K i H) : ∃ n, DrawsAt X S H s it i n ∧ i ≤ n ∧ (S.has X.K i H → i < n) ∧ (S.ends X.K i H → i = n) := by
  cases S with
  | txt x =>
    obtain ⟨t, st⟩ := st
    refine ⟨x.cps.size, ⟨_, _, fun A hh => Draws.text hh it x t, st, fun u ⟨c, u', e, eu⟩ => ?_, fun j h' q => ⟨t, q⟩⟩, hu, fun h => h, fun h => h⟩
    exact ⟨.str ⟨#[c]⟩, ⟨c, e, rfl⟩, ⟨u', eu⟩⟩
  | lst a =>
    obtain ⟨xs, hx, hu⟩ := hu
    obtain ⟨its, rv, p, _⟩ := I.list hx
    have hl := rv.length
    refine ⟨its.toArray.size, ⟨_, _, fun A hh => Draws.list hh it a (hit a (List.mem_singleton.mpr rfl)) its.toArray, ⟨st, p.isList⟩, fun u hq => ?_, fun j h' q => q.1⟩, by simp; omega, fun ⟨ys, hy, h⟩ => ?_, fun ⟨ys, hy, h⟩ => ?_⟩
    · have hq' : its[i]? = some u := by simpa using hq
      have hlt : i < xs.length := by rw [hl]; exact (List.getElem?_eq_some_iff.mp hq').1
      obtain ⟨u', e, r⟩ := rv.get (List.getElem?_eq_getElem hlt)
      rw [hq'] at e
      rw [Option.some.inj e]
      exact ⟨xs[i], fun zs hz => by rw [I.list_inj hz hx]; exact List.getElem?_eq_getElem hlt, r⟩
    · rw [I.list_inj hy hx] at h; simp; omega
    · rw [I.list_inj hy hx] at h; simp; omega
  | tup a =>
    obtain ⟨xs, hx, hu⟩ := hu
    obtain ⟨its, rv, p, _⟩ := I.tuple hx
    have hl := rv.length
    refine ⟨its.toArray.size, ⟨_, _, fun A hh => Draws.tuple hh it a (hit a (List.mem_singleton.mpr rfl)) its.toArray, ⟨st, p⟩, fun u hq => ?_, fun j h' q => q.1⟩, by simp; omega, fun ⟨ys, hy, h⟩ => ?_, fun ⟨ys, hy, h⟩ => ?_⟩
    · have hq' : its[i]? = some u := by simpa using hq
      have hlt : i < xs.length := by rw [hl]; exact (List.getElem?_eq_some_iff.mp hq').1
      obtain ⟨u', e, r⟩ := rv.get (List.getElem?_eq_getElem hlt)
      rw [hq'] at e
      rw [Option.some.inj e]
      exact ⟨xs[i], fun zs hz => by rw [I.tuple_inj hz hx]; exact List.getElem?_eq_getElem hlt, r⟩
    · rw [I.tuple_inj hy hx] at h; simp; omega
    · rw [I.tuple_inj hy hx] at h; simp; omega
end
def ItzX (K : PySem.W.Frag) (S1 S2 : Sr) : It :=
  ⟨fun i H => S1.has K i H ∧ S2.has K i H,
    fun i H v H' => ∃ T x y, v = .ref T ∧ H T = none ∧ H' = upd H T (.tup [x, y]) ∧ S1.val K i H x ∧ S2.val K i H y,
    fun i H => S1.upto K i H ∧ S2.upto K i H ∧ (S1.ends K i H ∨ S2.ends K i H)⟩
theorem Sr.has_upto {K : PySem.W.Frag} : ∀ {S : Sr} {i : Nat} {H : Hp}, S.has K i H → S.upto K i H
  | .txt _, _, _, h => Nat.le_of_lt h
  | .lst _, _, _, ⟨xs, hx, h⟩ => ⟨xs, hx, Nat.le_of_lt h⟩
  | .tup _, _, _, ⟨xs, hx, h⟩ => ⟨xs, hx, Nat.le_of_lt h⟩
theorem turn_zipX {P : Program} {w : World} {K : PySem.W.Frag} {elts : List Expr} {kk : Nat} {tpos : Pos} {z TI TO i1 i2 : Addr} (S1 S2 : Sr) (D : ZipSep2 z TI TO i1 i2 (i1 :: S1.fp) (i2 :: S2.fp)) (n1 : ∀ a ∈ S1.fp, a ≠ i1) (n2 : ∀ a ∈ S2.fp, a ≠ i2) :
    Turn P w K (.Tuple elts kk tpos) (ItzX K S1 S2) [z, TI, TO, i1, i2] z (fun i h => IsZip h z TI TO .none ∧ IsTupOf2 h TI (.ref i1) (.ref i2) ∧ (∃ x y, IsTupOf2 h TO x y) ∧ S1.tn i1 i h ∧ S2.tn i2 i h) where
  mem := by simp
  obj := fun i h st c hc => by
    obtain ⟨hz, hTI, ⟨x, y, hTO⟩, h1, h2⟩ := st
    have e' : c = z ∨ c = TI ∨ c = TO ∨ c = i1 ∨ c = i2 := by simpa using hc
    rcases e' with q | q | q | q | q
    · rw [q]; exact ⟨_, hz, fun v q => nomatch q⟩
    · rw [q]; exact ⟨_, hTI, fun v q => nomatch q⟩
    · rw [q]; exact ⟨_, hTO, fun v q => nomatch q⟩
    · rw [q]; exact Sr.tn_obj h1
    · rw [q]; exact Sr.tn_obj h2
  keep := fun i h h' st k => by
    obtain ⟨hz, hTI, ⟨x, y, hTO⟩, h1, h2⟩ := st
    exact ⟨k z (by simp) _ hz, k TI (by simp) _ hTI, ⟨x, y, k TO (by simp) _ hTO⟩, Sr.tn_keep h1 fun o q => k i1 (by simp) o q, Sr.tn_keep h2 fun o q => k i2 (by simp) o q⟩
  item := by
    intro X hP hw hK hc i pins s σ H E I hf st hg
    subst hP hw hK
    obtain ⟨hz, hTI, ⟨x0, y0, hTO⟩, h1, h2⟩ := st
    obtain ⟨g1, g2⟩ := hg
    obtain ⟨m1, ⟨P1, St1, D1, st1, v1, t1⟩, _, lt1, _⟩ := S1.draws I n1 h1 (Sr.has_upto g1)
    obtain ⟨m2, ⟨P2, St2, D2, st2, v2, t2⟩, _, lt2, _⟩ := S2.draws I n2 h2 (Sr.has_upto g2)
    have hzl : z < s.heap.objs.size := Heap.lt_size hz
    refine wpAny_pyNext_zipD2_item D (D1 _ (I.ok.hd hc)) (D2 _ (I.ok.hd hc)) hz hTI hTO st1 st2 (lt1 g1) (lt2 g2) fun u1 u2 h' tk p1 p2 z' TO' st1' st2' hT hsz hk => ?_
    obtain ⟨x, hx, rx⟩ := v1 u1 p1
    obtain ⟨y, hy, ry⟩ := v2 u2 p2
    refine ⟨_, rfl, wpAny_letOwnedTupleGo_zip (s := { s with heap := h', toks := tk }) z' fun h'' z'' sb => ?_⟩
    have hT2 : h''.get? s.heap.objs.size = some { cls := .type "tuple", data := .seq #[u1, u2] } := (sb.2 _ (Nat.ne_of_gt hzl)).trans hT
    have new : ObjOk X.prog X.w (upd H s.heap.objs.size (.tup [x, y])) h'' s.heap.objs.size (.tup [x, y]) :=
      ⟨by show 2 ≤ sizeLine; decide, [u1, u2], .cons rx (.cons ry .nil), ⟨_, hT2, rfl, _, rfl⟩⟩
    have I1 : Inv X pins σ (upd H s.heap.objs.size (.tup [x, y])) { s with heap := h'', toks := tk } :=
      I.turnedNew (t' := tk) (ch := [z, TI, TO, i1, i2]) (fun c o hb q => (sb.2 c (fun q' => hb (by simp [q']))).trans (hk c o (fun q' => hb (by simp [q'])) (fun q' => hb (by simp [q'])) (fun q' => hb (by simp [q'])) (fun q' => hb (by simp [q'])) q)) hf (Nat.le_refl _) new
    refine ⟨.ref s.heap.objs.size, _, I1, rfl, ⟨_, x, y, rfl, I.hok.fresh (Nat.le_refl _), rfl, hx, hy⟩, ⟨z'', ?_, ⟨u1, u2, ?_⟩, ?_, ?_⟩, fun c hcm => ?_⟩
    · exact (sb.2 _ D.TIz).trans (hk _ _ D.TIz D.TITO D.TIi1 D.TIi2 hTI)
    · exact (sb.2 _ D.TOz).trans TO'
    · exact Sr.tn_keep (t1 _ _ st1') fun o q => (sb.2 _ D.zi1.symm).trans q
    · exact Sr.tn_keep (t2 _ _ st2') fun o q => (sb.2 _ D.zi2.symm).trans q
    · have hlt : c < s.heap.objs.size := by
        have e' : c = z ∨ c = TI ∨ c = TO ∨ c = i1 ∨ c = i2 := by simpa using hcm
        rcases e' with q | q | q | q | q
        · rw [q]; exact hzl
        · rw [q]; exact Heap.lt_size hTI
        · rw [q]; exact Heap.lt_size hTO
        · rw [q]; obtain ⟨_, e1, _⟩ := Sr.tn_obj h1; exact Heap.lt_size e1
        · rw [q]; obtain ⟨_, e2, _⟩ := Sr.tn_obj h2; exact Heap.lt_size e2
      rw [upd_ne (Nat.ne_of_lt hlt)]
      exact (hf c hcm).1
  done := by
    intro X hP hw hK hc i pins s σ H E I hf st hg
    subst hP hw hK
    obtain ⟨hz, hTI, ⟨x0, y0, hTO⟩, h1, h2⟩ := st
    obtain ⟨g1, g2, ge⟩ := hg
    obtain ⟨m1, ⟨P1, St1, D1, st1, v1, t1⟩, le1, _, eq1⟩ := S1.draws I n1 h1 g1
    obtain ⟨m2, ⟨P2, St2, D2, st2, v2, t2⟩, le2, _, eq2⟩ := S2.draws I n2 h2 g2
    exact wpAny_pyNext_zipD2_end D (D1 _ (I.ok.hd hc)) (D2 _ (I.ok.hd hc)) hz hTI hTO st1 st2 le1 le2 (ge.elim (fun q => .inl (eq1 q)) fun q => .inr (eq2 q)) fun h' tk hk => ⟨rfl, I.turnedL (t' := tk) (ch := [z, TI, TO, i1, i2]) (fun c o hb q =>
      hk c o (fun q' => hb (by simp [q'])) (fun q' => hb (by simp [q'])) (fun q' => hb (by simp [q'])) (fun q' => hb (by simp [q'])) q) hf⟩
  self := fun A i s Q E st h => wpAny_pyIter_zip st.1 h
def Sr.of : V → Sr → Prop
  | .str x, .txt y => x = y
  | .ref a, .lst b => a = b
  | .ref a, .tup b => a = b
  | _, _ => False
def Sr.there (K : PySem.W.Frag) (H : Hp) : Sr → Prop
  | .txt _ => True
  | .lst a => ∃ xs, SqL K H a xs
  | .tup a => ∃ xs, SqT K H a xs
theorem Sr.begins {X : Cx} {pins : List (Addr × Obj)} {σ : L2.St} {H : Hp} {s : Shared} (I : Inv X pins σ H s) {v : V} {u : Value} (r : RelV v u) : ∀ {S : Sr}, S.of v → S.there X.K H → ∃ (o : Obj) (HH : Heap → Prop), Begins u o HH ∧ HH s.heap ∧ (∀ a ∈ S.fp, a < s.heap.objs.size) ∧ ∀ (h : Heap) (it : Addr), h.get? it = some o → S.tn it 0 h
  | .txt y, e, _ => by
    cases v with
    | str x =>
      have e' : x = y := e
      subst e'
      obtain ⟨t, rfl⟩ := r
      exact ⟨_, _, begins_text x t, trivial, (fun _ h => nomatch h), fun h it q => ⟨t, _, q, rfl, rfl⟩⟩
    | _ => exact e.elim
  | .lst b, e, ⟨xs, hx⟩ => by
    cases v with
    | ref a =>
      have e' : a = b := e
      subst e'
      cases r
      obtain ⟨its, rv, p, _⟩ := I.list hx
      refine ⟨_, _, begins_list a its.toArray, p.isList, fun c h => ?_, fun h it q => ⟨_, q, rfl, rfl⟩⟩
      rw [List.mem_singleton.mp h]; exact p.lt
    | _ => exact e.elim
  | .tup b, e, ⟨xs, hx⟩ => by
    cases v with
    | ref a =>
      have e' : a = b := e
      subst e'
      cases r
      obtain ⟨its, rv, p, _⟩ := I.tuple hx
      refine ⟨_, _, begins_tuple a its.toArray, p, fun c h => ?_, fun h it q => ⟨_, q, rfl, rfl⟩⟩
      rw [List.mem_singleton.mp h]; exact p.lt
    | _ => exact e.elim
def iZipX (K : PySem.W.Frag) (ta : TA) : TI := fun σ H R => ta σ H fun vs H1 => ∃ (x y : V) (S1 S2 : Sr), vs = [x, y] ∧ S1.of x ∧ S2.of y ∧ S1.there K H1 ∧ S2.there K H1 ∧ R (ItzX K S1 S2) H1
theorem pi_zipX {X : Cx} {e e2 : Expr} {ta : TA} {p pos tpos : Pos} {elts : List Expr} {kk : Nat} (hg : Gl X "zip") (hm : X.mg "zip" = none) (ha : PA X [e, e2] ta)
    (hs : starEach [e, e2] X.env = (false, eval e X.env) :: starEach [e2] X.env := by rfl) (hpl : (backTo pos (starEach [e2] X.env)).any (·.1) = false := by rfl) :
    PI X (.Tuple elts kk tpos) (.Call (.Name "zip" p) [e, e2] [] pos) (iZipX X.K ta) := by
  refine ⟨fun pins s σ H R I h => ?_⟩
  refine Call_ (ld_blt I hg hm PyProof.Rows.boot_zip (PyProof.Rows.callWith_type1 (thn (ha.run pos pins s σ H _ I h) fun us s1 ⟨vs, H1, I1, r1, q1⟩ => ?_) hs hpl))
  obtain ⟨x, y, S1, S2, ex, e1, e2, th1, th2, q⟩ := q1
  subst ex
  obtain ⟨u, u', rfl, r, r'⟩ := vals2 r1
  obtain ⟨o1, HH1, B1, b1, f1, t1⟩ := Sr.begins I1 r e1 th1
  obtain ⟨o2, HH2, B2, b2, f2, t2⟩ := Sr.begins I1 r' e2 th2
  have fresh5 : ∀ c, c ∈ [s1.heap.objs.size + 4, s1.heap.objs.size + 2, s1.heap.objs.size + 3, s1.heap.objs.size, s1.heap.objs.size + 1] → FpOk X pins H1 c := fun c hcm => by
    have e' : c = s1.heap.objs.size + 4 ∨ c = s1.heap.objs.size + 2 ∨ c = s1.heap.objs.size + 3 ∨ c = s1.heap.objs.size ∨ c = s1.heap.objs.size + 1 := by simpa using hcm
    have hle : s1.heap.objs.size ≤ c := by
      rcases e' with z | z | z | z | z
      · rw [z]; exact Nat.le_add_right _ _
      · rw [z]; exact Nat.le_add_right _ _
      · rw [z]; exact Nat.le_add_right _ _
      · rw [z]; exact Nat.le_refl _
      · rw [z]; exact Nat.le_add_right _ _
    exact I1.fpOk hle (I1.hok.fresh hle)
  refine zip_begins2 B1 B2 b1 b2 fun h' hz hTI hTO h1 h2 hsz hk => wpAny_pyIter_zip hz ?_
  have I2 : Inv X pins σ H1 { s1 with heap := h' } := I1.kept (t' := s1.toks) hk
  exact ⟨s1.heap.objs.size + 4, [s1.heap.objs.size + 4, s1.heap.objs.size + 2, s1.heap.objs.size + 3, s1.heap.objs.size, s1.heap.objs.size + 1], _, _, H1, rfl, I2,
    turn_zipX S1 S2 (PySem.zip_sep2 f1 f2) (fun a ha => Nat.ne_of_lt (f1 a ha)) (fun a ha => Nat.ne_of_lt (Nat.lt_succ_of_lt (f2 a ha))), ⟨hz, hTI, ⟨_, _, hTO⟩, t1 _ _ h1, t2 _ _ h2⟩, fresh5, q⟩
end LX
namespace LX
open PySem PySem.Spec PyProof.Rows L2 C8 SX
section
variable {prog : Program} {w : World} {A : Around} {E : Value → Shared → Prop} {s : Shared} {K : PySem.W.Frag} {x y C L f : Addr} {h₀ : Heap} {m : Str → Option Value} {ox : Obj} {od : Option Obj}
theorem objNe_own (X : K.In s.heap) (I : PySem.W.InstAt s.heap x ox C od) (hs : PySem.W.findIn K (.ref C) "__eq__" = some (some (.ref f))) (hf : PySem.W.isFn K (.ref f) = true) (hu : A.units < cLine) {Q : Fin → Shared → Prop}
    (hcall : wpAny (model prog w) A (call (.ref f) [.ref x, .ref y]) (fun v s' => ∃ b, v = .bool b ∧ Q (.done (.ret (.bool (!b)))) s') E s) :
    wpAny (model prog w) A (Builtin.«object.__ne__» ⟨[.ref x, .ref y], []⟩) Q E s := by
  unfold Builtin.«object.__ne__»
  repeat (first
    | with_reducible refine wpAny_cRoomFor hu ?_
    | (refine wpAny_bind (m := callSpecialIfBound? (.ref x) (Str.ofString "__eq__") [.ref y])
        (PySem.W.ifBound_K X I hs hf (wpAny_mono hcall (fun r s' hr => by
          obtain ⟨b, rfl, hq⟩ := hr
          repeat (first | exact hq | exact wpAny_pure hq | exact wpAny_truthy_bool hq | (refine wpAny_bind (m := truthy (.bool _)) (wpAny_truthy_bool ?_)) | wp_step)) fun _ _ e => e)))
    | wp_step)
theorem ifBound_ne {M : Model} {args : List Value} {Q : Option Value → Shared → Prop} (X : K.In s.heap) (I : PySem.W.InstAt s.heap x ox C od) (hs : PySem.W.findIn K (.ref C) "__ne__" = some (some (.builtin "object.__ne__")))
    (h : wpAny M A (call (.builtin "object.__ne__") (.ref x :: args)) (fun v => Q (some v)) E s) : wpAny M A (callSpecialIfBound? (.ref x) "__ne__" args) Q E s := by
  simp only [callSpecialIfBound?, bindSpecialIfBound?]
  refine wpAny_holding (wpAny_bind (wpAny_bind (wpAny_bind (I.type.here ((PySem.W.looks_findIn X hs).here ?_)))))
  simp only [F.cmp_object.ne.bind]
  refine wpAny_bind (wpAny_askSetting (wpAny_ite ?_))
  have fin : wpAny M A (call (.builtin "object.__ne__") ([.ref x] ++ args) >>= fun v => pure (some v)) Q E s := wpAny_bind (wpAny_mono h (fun v s' h' => wpAny_pure h') fun _ _ h' => h')
  split
  · exact wpAny_bind (wpAny_pure (wpAny_pure fin))
  · exact wpAny_tryCatch (wpAny_bind (wpAny_pure (wpAny_pure fin)))
theorem check_ne {M : Model} {Q : Unit → Shared → Prop} (X : K.In s.heap) (I : PySem.W.InstAt s.heap x ox C od) (hm : PySem.W.mroIn K C (.type "object") = some true) (hq : Q () s) :
    wpAny M A (checkBuiltinCall "object.__ne__" ⟨[.ref x, .ref y], []⟩) Q E s := by
  have L0 := I.type (M := M)
  have L1 := PySem.W.looks_mroIn (M := M) X hm
  simp only [checkBuiltinCall, F.cmpKind_ne, F.cmpSplit_ne]
  have ha := F.cmpArgs_ne (.ref x) (.ref y)
  refine wpAny_bind ?_
  unfold isInstance
  repeat lk
  exact hq
theorem rcNe_own (hu : A.units + 1 < cLine) (FF : Fr h₀ L s.heap m) (X₀ : K.In h₀) (I : PySem.W.InstAt s.heap x ox C od) (hb : PySem.W.Looks (model prog w) s.heap (typeOf (.ref y)) (.ref C))
    (hs : PySem.W.findIn K (.ref C) "__eq__" = some (some (.ref f))) (hf : PySem.W.isFn K (.ref f) = true) (hn : PySem.W.findIn K (.ref C) "__ne__" = some (some (.builtin "object.__ne__"))) (hm : PySem.W.mroIn K C (.type "object") = some true)
    {Q : Value → Shared → Prop} (hcall : wpAny (model prog w) A.in1 (call (.ref f) [.ref x, .ref y]) (fun v s' => ∃ b, v = .bool b ∧ Q (.bool (!b)) s') E s) :
    wpAny (model prog w) A (richCompare .NotEq (.ref x) (.ref y)) Q E s := by
  have X := X₀.keeps FF.keep
  have one : wpAny (model prog w) A (tryCompare (.ref x) (cmpInfo .NotEq).2.1 (.ref y)) (fun r s' => ∃ v, r = some v ∧ Q v s') E s := by
    show wpAny (model prog w) A (tryCompare (.ref x) "__ne__" (.ref y)) (fun r s' => ∃ v, r = some v ∧ Q v s') E s
    unfold tryCompare
    refine wpAny_bind (ifBound_ne X I hn (wpAny_call (codeAny_call_builtin F.cmp_object.ne.plain F.cmpEntry_ne (check_ne X I hm (objNe_own (A := A.in1) X I hs hf (by show A.units + 1 < cLine; exact hu) (wpAny_mono hcall (fun v s' hv => ?_) fun _ _ e => e))))))
    obtain ⟨b, rfl, hq⟩ := hv
    first | exact ⟨b, rfl, wpAny_pure ⟨_, rfl, hq⟩⟩ | exact ⟨b, rfl, wpAny_pure (wpAny_pure ⟨_, rfl, hq⟩)⟩ | exact ⟨b, rfl, ⟨_, rfl, hq⟩⟩
  unfold richCompare
  simp only [oneThing_ref]
  refine wpAny_holding (wpAny_bind (wpAny_cRoomFor (by omega) ?_))
  refine wpAny_bind (I.type.here (wpAny_bind (hb.here ?_)))
  rw [show (Value.ref C != Value.ref C) = false from by simp]
  simp only [Bool.false_eq_true, if_false]
  refine wpAny_bind (wpAny_pure ?_)
  simp only [Bool.false_eq_true, if_false]
  refine wpAny_bind (wpAny_mono one (fun r s' z => ?_) fun _ _ e => e)
  obtain ⟨v, rfl, hq⟩ := z
  first | exact wpAny_pure hq | exact hq
end
section
variable {X : Cx} {k j : Nat} {C : Addr} {sp : Sp}
theorem met_run {mth : Str} {pins : List (Addr × Obj)} {σ : L2.St} {H : Hp} {s : Shared} {A : Around} {a b : Addr} {Q : Value → Shared → Prop} (c : Met X.prog X.w X.K X.mg X.base k C mth sp []) (hr : Room k A) (hfr : A.frames = X.A.frames) (I : Inv X pins σ H s)
    {R : VK} (hsp : sp [.ref a, .ref b] H R C8.E0) (hQ : ∀ v z H' s', Inv X pins σ H' s' → RelV z v → R z H' → Q v s') :
    ∃ f, PySem.W.findIn X.K (.ref C) mth = some (some (.ref f)) ∧ PySem.W.isFn X.K (.ref f) = true ∧ wpAny (model X.prog X.w) A (call (.ref f) [.ref a, .ref b]) Q X.xe s := by
  obtain ⟨f, fd, ps, ds, hc, hm, F, hb, hd⟩ := c.ex
  refine ⟨f, hm.at_, hm.fn, ?_⟩
  have e0 : Env0 X.prog X.w X.K X.mg X.base A X.stack s H := by
    have e := I.env0
    exact ⟨by rw [hfr]; exact e.frames, e.mod, e.bs, e.bsz, e.funs, e.frf, e.hok, e.bare⟩
  have hds : ds = [] := by cases hd; rfl
  subst hds
  have hl := F.len _ _ _ _ hsp
  have r2 : Vals [V.ref a, V.ref b] [Value.ref a, Value.ref b] := .cons rfl (.cons rfl .nil)
  refine wpAny_call (codeAny_mono (F.run A X.stack s H ⟨[.ref a, .ref b], []⟩ [.ref a, .ref b] [.ref a, .ref b] _ C8.E0 hr e0 (by
    have := hb s [.ref a, .ref b] I.kIn (by simpa using hl)
    simpa using this) r2 hsp) fun r s' hq => ?_)
  cases r with
  | error e => exact C8.pass0 (E := C8.E0) pins σ H s e s' I hq
  | ok fl =>
    cases fl with
    | ret w =>
      obtain ⟨z, H', I', rz, q⟩ := I.after hq
      exact hQ w z H' s' I' rz q
    | next => exact False.elim hq
    | brk => exact False.elim hq
    | cont => exact False.elim hq
structure NeC (K : PySem.W.Frag) (C : Addr) : Prop where
  ne : PySem.W.findIn K (.ref C) "__ne__" = some (some (.builtin "object.__ne__"))
  ob : PySem.W.mroIn K C (.type "object") = some true
  sf : PySem.W.selfFirst K C = true
def rEqI (C : Addr) (sp : Sp) : R2 := fun x y H Q => ∃ a b dx dy fs gs, x = .ref a ∧ y = .ref b ∧ H a = some (.ins C dx fs) ∧ H b = some (.ins C dy gs) ∧ sp [.ref a, .ref b] H (fun v H' => ∃ r, v = .bl r ∧ Q (.bl r) H') C8.E0
def rNeI (C : Addr) (sp : Sp) : R2 := fun x y H Q => ∃ a b dx dy fs gs, x = .ref a ∧ y = .ref b ∧ H a = some (.ins C dx fs) ∧ H b = some (.ins C dy gs) ∧ sp [.ref a, .ref b] H (fun v H' => ∃ r, v = .bl r ∧ Q (.bl (!r)) H') C8.E0
def rOpI (C : Addr) (sp : Sp) : R2 := fun x y H Q => ∃ a b dx dy fs gs, x = .ref a ∧ y = .ref b ∧ H a = some (.ins C dx fs) ∧ H b = some (.ins C dy gs) ∧ sp [.ref a, .ref b] H (fun v H' => ∃ p, v = .ref p ∧ Q (.ref p) H') C8.E0
theorem op_eqI (c : Met X.prog X.w X.K X.mg X.base k C "__eq__" sp []) (hr : Room j X.A) (hk : k ≤ j) : OpR X (compareOp .Eq) (rEqI C sp) := by
  intro pins s σ H x y v u Q I rx ry h
  obtain ⟨a, b, dx, dy, fs, gs, rfl, rfl, ha, hb, hsp⟩ := h
  cases rx
  cases ry
  obtain ⟨mA, J, _⟩ := ins_get I.hok ha
  obtain ⟨mB, J', _⟩ := ins_get I.hok hb
  obtain ⟨od, J, _⟩ := J.look
  obtain ⟨od', J', _⟩ := J'.look
  obtain ⟨m, hF⟩ := I.fr
  obtain ⟨f, hs, hf, hw⟩ := met_run (Q := PySem.W.CmpBack (EP X pins σ Q)) c (hr.mono hk) rfl I hsp (fun v z H' s' I' rz q => by
    obtain ⟨r, rfl, q⟩ := q
    cases rz
    exact ⟨.bl r, H', I', rfl, q⟩)
  exact PySem.W.cmp_K (op := .Eq) (tb := .ref C) hr.units0 hF I.ok.mod.kin J J'.type (by simp [PySem.W.notFirst]) hs hf hw
theorem op_neI (n : NeC X.K C) (c : Met X.prog X.w X.K X.mg X.base k C "__eq__" sp []) (hr : Room j X.A) (hk : k + 1 ≤ j) : OpR X (compareOp .NotEq) (rNeI C sp) := by
  intro pins s σ H x y v u Q I rx ry h
  obtain ⟨a, b, dx, dy, fs, gs, rfl, rfl, ha, hb, hsp⟩ := h
  cases rx
  cases ry
  obtain ⟨mA, J, _⟩ := ins_get I.hok ha
  obtain ⟨mB, J', _⟩ := ins_get I.hok hb
  obtain ⟨od, J, _⟩ := J.look
  obtain ⟨od', J', _⟩ := J'.look
  obtain ⟨m, hF⟩ := I.fr
  obtain ⟨f, hs, hf, hw⟩ := met_run (Q := fun v s' => ∃ b, v = .bool b ∧ EP X pins σ Q (.bool (!b)) s') c (hr.mono hk).in1 rfl I hsp (fun v z H' s' I' rz q => by
    obtain ⟨r, rfl, q⟩ := q
    cases rz
    exact ⟨r, rfl, .bl (!r), H', I', rfl, q⟩)
  exact rcNe_own (hu_of hr) hF I.ok.mod.kin J J'.type hs hf n.ne n.ob hw
theorem op_mulI (n : NeC X.K C) (c : Met X.prog X.w X.K X.mg X.base k C "__mul__" sp []) (hr : Room j X.A) (hk : k ≤ j) : OpR X (binaryOp .Mult) (rOpI C sp) := by
  intro pins s σ H x y v u Q I rx ry h
  obtain ⟨a, b, dx, dy, fs, gs, rfl, rfl, ha, hb, hsp⟩ := h
  cases rx
  cases ry
  obtain ⟨mA, J, _⟩ := ins_get I.hok ha
  obtain ⟨mB, J', _⟩ := ins_get I.hok hb
  obtain ⟨od, J, _⟩ := J.look
  obtain ⟨od', J', _⟩ := J'.look
  obtain ⟨m, hF⟩ := I.fr
  obtain ⟨f, hs, hf, hw⟩ := met_run (Q := PySem.W.CmpBack (EP X pins σ Q)) c (hr.mono hk) rfl I hsp (fun v z H' s' I' rz q => by
    obtain ⟨p, rfl, q⟩ := q
    cases rz
    exact ⟨.ref p, H', I', rfl, q⟩)
  exact PySem.W.binop_K (op := .Mult) hF I.ok.mod.kin J J'.type n.sf hs hf hw
theorem op_addI (n : NeC X.K C) (c : Met X.prog X.w X.K X.mg X.base k C "__add__" sp []) (hr : Room j X.A) (hk : k ≤ j) : OpR X (binaryOp .Add) (rOpI C sp) := by
  intro pins s σ H x y v u Q I rx ry h
  obtain ⟨a, b, dx, dy, fs, gs, rfl, rfl, ha, hb, hsp⟩ := h
  cases rx
  cases ry
  obtain ⟨mA, J, _⟩ := ins_get I.hok ha
  obtain ⟨mB, J', _⟩ := ins_get I.hok hb
  obtain ⟨od, J, _⟩ := J.look
  obtain ⟨od', J', _⟩ := J'.look
  obtain ⟨m, hF⟩ := I.fr
  obtain ⟨f, hs, hf, hw⟩ := met_run (Q := PySem.W.CmpBack (EP X pins σ Q)) c (hr.mono hk) rfl I hsp (fun v z H' s' I' rz q => by
    obtain ⟨p, rfl, q⟩ := q
    cases rz
    exact ⟨.ref p, H', I', rfl, q⟩)
  exact PySem.W.binop_K (op := .Add) hF I.ok.mod.kin J J'.type n.sf hs hf hw
end
end LX
namespace LX
open PySem PySem.Spec PyProof.Rows L2 C8 SX
section
variable {X : Cx} {K : PySem.W.Frag} {H : Hp}
def txs (xs : List (List Nat)) : List V := xs.map fun l => V.str (S l)
theorem txs_len (xs : List (List Nat)) : (txs xs).length = xs.length := List.length_map ..
theorem dp_strs : ∀ xs : List (List Nat), DpAll K H (txs xs) (xs.map fun l => PyData.str (S l))
  | [] => .nil
  | x :: xs => .cons (.str _) (dp_strs xs)
theorem eqv_strs : ∀ xs ys : List (List Nat), PyData.eqvAll (xs.map fun l => PyData.str (S l)) (ys.map fun l => PyData.str (S l)) = decide (xs = ys)
  | [], [] => rfl
  | [], _ :: _ => rfl
  | _ :: _, [] => rfl
  | x :: xs, y :: ys => by
    show (S x == S y && PyData.eqvAll (xs.map fun l => PyData.str (S l)) (ys.map fun l => PyData.str (S l))) = _
    rw [S_beq_eq, eqv_strs xs ys, ← Bool.decide_and]
    exact decide_eq_decide.mpr (by rw [List.cons.injEq])
def Small (xs : List (List Nat)) : Prop := ∀ l ∈ xs, ∀ c ∈ l, c < 1114112
theorem lay_strs : ∀ {xs : List (List Nat)}, Small xs → PyData.canLayAll0 (xs.map fun l => PyData.str (S l)) = true ∧ PyData.depthAll (xs.map fun l => PyData.str (S l)) ≤ 1
  | [], _ => ⟨rfl, Nat.zero_le _⟩
  | x :: xs, h => by
    obtain ⟨h1, h2⟩ := lay_strs (xs := xs) fun l hl => h l (List.mem_cons_of_mem _ hl)
    refine ⟨?_, ?_⟩
    · show (PyData.canLay0 (.str (S x)) && PyData.canLayAll0 (xs.map fun l => PyData.str (S l))) = true
      rw [h1, Bool.and_true]
      show (S x).cps.all (· < 0x110000) = true
      rw [← Array.all_toList, List.all_eq_true]
      exact fun c hc => decide_eq_true (h x List.mem_cons_self c hc)
    · show max (PyData.depth (.str (S x))) (PyData.depthAll (xs.map fun l => PyData.str (S l))) ≤ 1
      have e : PyData.depth (.str (S x)) ≤ 1 := Nat.zero_le _
      omega
theorem shaped_lst {xs : List (List Nat)} (h : Small xs) : SeqAt.shaped (.list (xs.map fun l => PyData.str (S l))) = true := by
  obtain ⟨h1, h2⟩ := lay_strs h
  show (PyData.canLayAll0 _ && decide (PyData.depthAll _ + 1 ≤ 64)) = true
  rw [h1, Bool.true_and, decide_eq_true_eq]; omega
theorem shaped_tup {xs : List (List Nat)} (h : Small xs) : SeqAt.shaped (.tuple (xs.map fun l => PyData.str (S l))) = true := by
  obtain ⟨h1, h2⟩ := lay_strs h
  show (PyData.canLayAll0 _ && decide (PyData.depthAll _ + 1 ≤ 64)) = true
  rw [h1, Bool.true_and, decide_eq_true_eq]; omega
def rSs (K : PySem.W.Frag) (f : Bool → Bool) : R2 := fun x y H Q => ∃ (a b : Addr) (xs ys : List (List Nat)), x = .ref a ∧ y = .ref b ∧ ((SqL K H a (txs xs) ∧ SqL K H b (txs ys)) ∨ (SqT K H a (txs xs) ∧ SqT K H b (txs ys))) ∧ Small xs ∧ Small ys ∧ Q (.bl (f (decide (xs = ys)))) H
theorem op_eqSs {k : Nat} (hr : Room k X.A) : OpR X (compareOp .Eq) (rSs X.K fun b => b) := by
  intro pins s σ H x y v u Q I rx ry h
  obtain ⟨a, b, xs, ys, rfl, rfl, hh, hx, hy, q⟩ := h
  rcases hh with ⟨h1, h2⟩ | ⟨h1, h2⟩
  · exact op_eqD hr.units pins s σ H _ _ v u Q I rx ry ⟨_, _, .lst h1 (dp_strs xs), .lst h2 (dp_strs ys), shaped_lst hx, shaped_lst hy, by rw [show PyData.eqv (.list (xs.map fun l => PyData.str (S l))) (.list (ys.map fun l => PyData.str (S l))) = _ from eqv_strs xs ys]; exact q⟩
  · exact op_eqD hr.units pins s σ H _ _ v u Q I rx ry ⟨_, _, .tup h1 (dp_strs xs), .tup h2 (dp_strs ys), shaped_tup hx, shaped_tup hy, by rw [show PyData.eqv (.tuple (xs.map fun l => PyData.str (S l))) (.tuple (ys.map fun l => PyData.str (S l))) = _ from eqv_strs xs ys]; exact q⟩
theorem op_neSs {k : Nat} (hr : Room k X.A) : OpR X (compareOp .NotEq) (rSs X.K fun b => !b) := by
  intro pins s σ H x y v u Q I rx ry h
  obtain ⟨a, b, xs, ys, rfl, rfl, hh, hx, hy, q⟩ := h
  rcases hh with ⟨h1, h2⟩ | ⟨h1, h2⟩
  · exact op_neD hr.units pins s σ H _ _ v u Q I rx ry ⟨_, _, .lst h1 (dp_strs xs), .lst h2 (dp_strs ys), shaped_lst hx, shaped_lst hy, by rw [show PyData.eqv (.list (xs.map fun l => PyData.str (S l))) (.list (ys.map fun l => PyData.str (S l))) = _ from eqv_strs xs ys]; exact q⟩
  · exact op_neD hr.units pins s σ H _ _ v u Q I rx ry ⟨_, _, .tup h1 (dp_strs xs), .tup h2 (dp_strs ys), shaped_tup hx, shaped_tup hy, by rw [show PyData.eqv (.tuple (xs.map fun l => PyData.str (S l))) (.tuple (ys.map fun l => PyData.str (S l))) = _ from eqv_strs xs ys]; exact q⟩
end
theorem occ_idx {l : List Nat} {c : Nat} (h : c ∈ l) : ∃ r, Builtin.Str.occurrences (S l) (S [c]) 0 (S l).length 1 = l.idxOf c :: r := by
  have hlt := List.idxOf_lt_length_of_mem h
  have hat : StrLaws.At (S l) (S [c]) (S l).length (l.idxOf c) := (StrLaws.subAt_one (S l) c _).mpr (by show l[l.idxOf c]? = some c; rw [List.getElem?_eq_getElem hlt, List.getElem_idxOf hlt])
  rcases StrLaws.occ_head (S l) (S [c]) 1 (Nat.le_refl _) with ⟨_, hn⟩ | ⟨i, r, e, ha, hn⟩
  · exact absurd hat (hn _)
  · refine ⟨r, ?_⟩
    have hi : l[i]? = some c := (StrLaws.subAt_one (S l) c i).mp ha
    have h1 : ¬ l.idxOf c < i := fun z => hn _ z hat
    have h2 : ¬ i < l.idxOf c := fun z => by
      obtain ⟨hl, e⟩ := List.getElem?_eq_some_iff.mp hi
      have q := List.not_of_lt_findIdx (p := (· == c)) (xs := l) z
      simp [e] at q
    have : i = l.idxOf c := by omega
    rw [e, this]
structure Keep (Rel : Hp → Hp → Prop) (H1 : Hp) : Prop where
  refl : Rel H1 H1
  trans : ∀ H H', Rel H1 H → Rel H H' → Rel H1 H'
  put : ∀ H D o, Rel H1 H → H1 D = none → Rel H1 (upd H D o)
  get : ∀ H H' D o, Rel H H' → H1 D = none → Rel H1 H → H D = some o → H' D = some o
theorem keep_same {H1 : Hp} : Keep Same H1 where
  refl := Same.refl _
  trans := fun _ _ a b => a.trans b
  put := fun H D o s hD b u e => by rw [upd_ne (ne_of_none e hD)]; exact s b u e
  get := fun H H' D o s _ _ e => s _ _ e
def Bk (Pb : HO → Prop) (b : Addr) (H H' : Hp) : Prop := (∀ a o, a ≠ b → H a = some o → H' a = some o) ∧ ∃ o, H' b = some o ∧ Pb o
theorem keep_bk {Pb : HO → Prop} {b : Addr} {H1 : Hp} (h : ∃ o, H1 b = some o ∧ Pb o) : Keep (Bk Pb b) H1 where
  refl := ⟨fun _ _ _ e => e, h⟩
  trans := fun _ _ p q => ⟨fun a o n e => q.1 a o n (p.1 a o n e), q.2⟩
  put := fun H D o s hD => by
    obtain ⟨o1, e1, _⟩ := h
    refine ⟨fun a u n e => by rw [upd_ne (ne_of_none e hD)]; exact s.1 a u n e, ?_⟩
    rw [upd_ne (ne_of_none e1 hD)]
    exact s.2
  get := fun H H' D o s hD _ e => by
    obtain ⟨o1, e1, _⟩ := h
    exact s.1 D o (ne_of_none e1 hD).symm e
theorem bk_same {Pb : HO → Prop} {b : Addr} {H H' : Hp} (s : Same H H') (h : ∃ o, H b = some o ∧ Pb o) : Bk Pb b H H' := ⟨fun a o _ e => s a o e, let ⟨o, e, p⟩ := h; ⟨o, s b o e, p⟩⟩
theorem sm_put {H H' : Hp} {p : Addr} {o : HO} (s : Same H H') (h : H p = none) : Same H (upd H' p o) := fun b u e => by rw [upd_ne (ne_of_none e h)]; exact s b u e
theorem sm_put' {H H' : Hp} {p : Addr} {o : HO} (s : Same H H') (h : H' p = none) : Same H (upd H' p o) := sm_put s (s.free h)
theorem sm_new {H : Hp} {p : Addr} {o : HO} (h : H p = none) : Same H (upd H p o) := sm_put (Same.refl H) h
theorem sm_seqT {K : PySem.W.Frag} {H H' : Hp} {a : Addr} {xs : List V} (e : Same H H') (h : SqT K H a xs) : SqT K H' a xs :=
  h.elim (fun h => .inl (h.elim (fun h => .inl (e _ _ h)) fun ⟨o, h⟩ => .inr ⟨o, e _ _ h⟩)) fun h => .inr h
theorem bk_seq {Pb : HO → Prop} {K : PySem.W.Frag} {b : Addr} {H H' : Hp} {a : Addr} {xs : List V} (e : Bk Pb b H H') (n : a ≠ b) (h : SqL K H a xs) : SqL K H' a xs := by
  rcases h with (h | ⟨o, h⟩) | h
  · exact .inl (.inl (e.1 _ _ n h))
  · exact .inl (.inr ⟨o, e.1 _ _ n h⟩)
  · exact .inr h
theorem lc_keep {Rel : Hp → Hp → Prop} {J : It} {n : Nat} {G : Hp → Prop} {Y : Nat → Hp → V → Hp → Prop} {H1 : Hp} (kp : Keep Rel H1) (w : Walk J n G Y) {g : TG} {te : TE} {vs : List Nat} {σ : L2.St} {D : Addr} {Qd : Hp → Prop} (hD : H1 D = none) (hn : n < sizeLine)
    (Good : Nat → V → Prop) (hG : ∀ H, Rel H1 H → G H)
    (hs : ∀ i x H H' (R : V → Hp → Prop), i < n → Rel H1 H → Y i H x H' → (∀ y H4, Rel H H4 → Good i y → R y H4) → g x (wipe σ vs) H' fun σ2 H2 => wipe σ2 vs = wipe σ vs ∧ te σ2 H2 R)
    (hd : ∀ ys H, ys.length = n → (∀ (j : Nat) y, ys[j]? = some y → Good j y) → Rel H1 H → H D = some (.lst ys) → Qd H) :
    ∃ W : Nat → Nat → Hp → Prop, (∃ m, W 0 m (upd H1 D (.lst []))) ∧ ∀ i m H, W i m H →
      (J.stop i H ∧ Qd H) ∨ (J.go i H ∧ ∃ Nx : Hp → Prop, (∀ H', Nx H' → ∃ m', m' < m ∧ W (i + 1) m' H') ∧ ∀ x H', J.yld i H x H' → g x (wipe σ vs) H' fun σ2 H2 => wipe σ2 vs = wipe σ vs ∧ tYes σ2 H2 fun b H3 =>
        if b = true then te σ2 H3 fun y H4 => ∃ acc, H4 D = some (.lst acc) ∧ acc.length < sizeLine ∧ Nx (upd H4 D (.lst (acc ++ [y]))) else Nx H3) := by
  refine lc_it w (fun i H => ∃ acc, acc.length = i ∧ H D = some (.lst acc) ∧ Rel H1 H ∧ ∀ (j : Nat) y, acc[j]? = some y → Good j y) ⟨[], rfl, upd_same, kp.put _ _ _ kp.refl hD, fun j y e => by simp at e⟩ (fun i H _ ⟨_, _, _, r, _⟩ => hG H r) (fun i x H H' hi ⟨acc, hl, hDa, r, hg⟩ hy => ?_) (fun H ⟨acc, hl, hDa, r, hg⟩ => hd acc H hl hg r hDa)
  refine hs i x H H' _ hi r hy fun y H4 r4 gy => ?_
  refine ⟨acc, kp.get _ _ _ _ r4 hD r hDa, by omega, acc ++ [y], by simp [hl], upd_same, kp.put _ _ _ (kp.trans _ _ r r4) hD, fun j z e => ?_⟩
  rcases Nat.lt_or_ge j acc.length with h | h
  · rw [List.getElem?_append_left h] at e
    exact hg j z e
  · rw [List.getElem?_append_right h] at e
    have hj : j - acc.length = 0 := by
      rcases Nat.lt_or_ge (j - acc.length) 1 with z | z
      · omega
      · rw [List.getElem?_eq_none (by simpa using z)] at e; cases e
    rw [hj] at e
    have : y = z := Option.some.inj e
    subst this
    have : j = i := by omega
    subst this
    exact gy
theorem list_of {α : Type} {ys : List α} {n : Nat} {f : Nat → α} (hl : ys.length = n) (h : ∀ (j : Nat) y, ys[j]? = some y → y = f j) : ys = (List.range n).map f := by
  apply List.ext_getElem
  · simp [hl]
  · intro i h1 h2
    rw [List.getElem_map, List.getElem_range]
    exact h i _ (List.getElem?_eq_getElem h1)
theorem list_map {α β : Type} {ys : List β} {xs : List α} {f : α → β} (hl : ys.length = xs.length) (h : ∀ (j : Nat) y x, ys[j]? = some y → xs[j]? = some x → y = f x) : ys = xs.map f := by
  apply List.ext_getElem
  · simp [hl]
  · intro i h1 h2
    rw [List.getElem_map]
    exact h i _ _ (List.getElem?_eq_getElem h1) (List.getElem?_eq_getElem (by omega))
end LX
namespace LX
open PySem PySem.Spec PyProof.Rows L2 C8 SX
section
variable {X : Cx}
theorem ixl (K : PySem.W.Frag) (h : X.K = K := by rfl) : IxR X (rIxL K) := by subst h; exact ix_list
theorem ixt (K : PySem.W.Frag) (h : X.K = K := by rfl) : IxR X (rIxT K) := by subst h; exact ix_tup
theorem lenK (K : PySem.W.Frag) (h : X.K = K := by rfl) : CallR X (.builtin "len") (fun xs H Q => ∃ p ys, xs = [.ref p] ∧ (SqL K H p ys ∨ SqT K H p ys) ∧ Q (.int ys.length) H) := by subst h; exact call_len_seq
theorem listK (K : PySem.W.Frag) (h : X.K = K := by rfl) : CallR X (.type "list") (fun xs H Q => ∃ p ys, xs = [.ref p] ∧ (SqL K H p ys ∨ SqT K H p ys) ∧ ∀ l, H l = none → Q (.ref l) (upd H l (.lst ys))) := by subst h; exact call_list_of
theorem tupleK (K : PySem.W.Frag) (h : X.K = K := by rfl) : CallR X (.type "tuple") (fun xs H Q => ∃ p ys, xs = [.ref p] ∧ ((SqL K H p ys ∧ ∀ l, H l = none → Q (.ref l) (upd H l (.tup ys))) ∨ (SqT K H p ys ∧ Q (.ref p) H))) := by subst h; exact call_tuple_of
theorem isiK (K : PySem.W.Frag) (h : X.K = K := by rfl) : CallR X (.builtin "isinstance") (rIsi K) := by subst h; exact call_isi
theorem isiTK (K : PySem.W.Frag) (h : X.K = K := by rfl) : CallR X (.builtin "isinstance") (rIsiT K) := by subst h; exact call_isiT
theorem fldK (K : PySem.W.Frag) {o : Expr} {f : Str} {pos : Pos} {ta : TE} (ha : PE X o ta) (hb : attributeBase o f X.env (eval o X.env) = eval o X.env) (h : X.K = K := by rfl) : PE X (.Attribute o f pos) (tFld K ta f) := by subst h; exact pe_fld ha hb
theorem tupK (K : PySem.W.Frag) {es : List Expr} {k : Nat} {pos : Pos} {t : TGs} (n : Nat) (h : PGs X es t) (hc : X.calm = true := by rfl)
    (hn : (assignEach es X.env).length = n := by rfl) (hst : (assignEach es X.env).findIdx? (·.1) = none := by rfl) (hK : X.K = K := by rfl) : PG X (.Tuple es k pos) (gTup K n t) := by subst hK; exact pg_tup hc h hn hst
theorem unlK (K : PySem.W.Frag) {es : List Expr} {k : Nat} {pos : Pos} {t : TGs} (n : Nat) (h : PGs X es t) (hc : X.calm = true := by rfl)
    (hn : (assignEach es X.env).length = n := by rfl) (hst : (assignEach es X.env).findIdx? (·.1) = none := by rfl) (hK : X.K = K := by rfl) : PG X (.Tuple es k pos) (gUnl K n t) := by subst hK; exact pg_unl hc h hn hst
end
def Sr.is (K : PySem.W.Frag) (H : Hp) (xs : List V) : Sr → Prop
  | .txt x => xs = x.cps.toList.map fun c => V.str ⟨#[c]⟩
  | .lst a => SqL K H a xs
  | .tup a => SqT K H a xs
theorem Sr.is_there {K : PySem.W.Frag} {H : Hp} {xs : List V} : ∀ {S : Sr}, S.is K H xs → S.there K H
  | .txt _, _ => trivial
  | .lst _, h => ⟨xs, h⟩
  | .tup _, h => ⟨xs, h⟩
theorem Sr.is_has {K : PySem.W.Frag} {H : Hp} {xs : List V} {i : Nat} (hi : i < xs.length) : ∀ {S : Sr}, S.is K H xs → S.has K i H
  | .txt x, h => by
    have h' : xs = x.cps.toList.map fun c => V.str ⟨#[c]⟩ := h
    rw [h', List.length_map] at hi
    show i < x.cps.size; simpa using hi
  | .lst _, h => ⟨xs, h, hi⟩
  | .tup _, h => ⟨xs, h, hi⟩
theorem Sr.is_upto {K : PySem.W.Frag} {H : Hp} {xs : List V} {i : Nat} (hi : i ≤ xs.length) : ∀ {S : Sr}, S.is K H xs → S.upto K i H
  | .txt x, h => by
    have h' : xs = x.cps.toList.map fun c => V.str ⟨#[c]⟩ := h
    rw [h', List.length_map] at hi
    show i ≤ x.cps.size; simpa using hi
  | .lst _, h => ⟨xs, h, hi⟩
  | .tup _, h => ⟨xs, h, hi⟩
theorem Sr.is_ends {K : PySem.W.Frag} {H : Hp} {xs : List V} {i : Nat} (hi : i = xs.length) : ∀ {S : Sr}, S.is K H xs → S.ends K i H
  | .txt x, h => by
    have h' : xs = x.cps.toList.map fun c => V.str ⟨#[c]⟩ := h
    rw [h', List.length_map] at hi
    show i = x.cps.size; simpa using hi
  | .lst _, h => ⟨xs, h, hi⟩
  | .tup _, h => ⟨xs, h, hi⟩
theorem Sr.is_val {K : PySem.W.Frag} {H : Hp} {xs : List V} {i : Nat} {v : V} : ∀ {S : Sr}, S.is K H xs → S.val K i H v → xs[i]? = some v
  | .txt x, h, ⟨c, e, ev⟩ => by
    have h' : xs = x.cps.toList.map fun c => V.str ⟨#[c]⟩ := h
    have e' : x.cps.toList[i]? = some c := by simpa using e
    rw [h', List.getElem?_map, e', ev]; rfl
  | .lst _, h, e => e xs h
  | .tup _, h, e => e xs h
theorem walk_zipX {K : PySem.W.Frag} {S1 S2 : Sr} {xs ys : List V} : Walk (ItzX K S1 S2) (min xs.length ys.length) (fun H => S1.is K H xs ∧ S2.is K H ys) (YPair (fun i => xs[i]?) (fun i => ys[i]?)) := by
  refine ⟨fun i _ hi q => ⟨Sr.is_has (by omega) q.1, Sr.is_has (by omega) q.2⟩, fun _ q => ⟨Sr.is_upto (by omega) q.1, Sr.is_upto (by omega) q.2, ?_⟩, fun i H v H' _ q y => ?_⟩
  · rcases Nat.le_total xs.length ys.length with h | h
    · exact .inl (Sr.is_ends (by omega) q.1)
    · exact .inr (Sr.is_ends (by omega) q.2)
  · obtain ⟨T, x, z, h1, h2, h3, h4, h5⟩ := y
    exact ⟨T, x, z, h1, h2, h3, Sr.is_val q.1 h4, Sr.is_val q.2 h5⟩
end LX
namespace LX
open PySem PySem.Spec PyProof.Rows L2 C8 SX
theorem lc_keepH {Rel : Hp → Hp → Prop} {J : It} {n : Nat} {G : Hp → Prop} {Y : Nat → Hp → V → Hp → Prop} {H1 : Hp} (kp : Keep Rel H1) (w : Walk J n G Y) {g : TG} {te : TE} {vs : List Nat} {σ : L2.St} {D : Addr} {Qd : Hp → Prop} (hD : H1 D = none) (hn : n < sizeLine)
    (Good : Nat → V → Hp → Prop) (hG : ∀ H, Rel H1 H → G H)
    (st : ∀ i y H H', Rel H1 H → Rel H H' → Good i y H → Good i y H') (pt : ∀ i y H acc o, Rel H1 H → H D = some (.lst acc) → Good i y H → Good i y (upd H D o))
    (hs : ∀ i x H H' acc (R : V → Hp → Prop), i < n → Rel H1 H → H D = some (.lst acc) → Y i H x H' → (∀ y H4, Rel H H4 → Good i y H4 → R y H4) → g x (wipe σ vs) H' fun σ2 H2 => wipe σ2 vs = wipe σ vs ∧ te σ2 H2 R)
    (hd : ∀ ys H, ys.length = n → (∀ (j : Nat) y, ys[j]? = some y → Good j y H) → Rel H1 H → H D = some (.lst ys) → Qd H) :
    ∃ W : Nat → Nat → Hp → Prop, (∃ m, W 0 m (upd H1 D (.lst []))) ∧ ∀ i m H, W i m H →
      (J.stop i H ∧ Qd H) ∨ (J.go i H ∧ ∃ Nx : Hp → Prop, (∀ H', Nx H' → ∃ m', m' < m ∧ W (i + 1) m' H') ∧ ∀ x H', J.yld i H x H' → g x (wipe σ vs) H' fun σ2 H2 => wipe σ2 vs = wipe σ vs ∧ tYes σ2 H2 fun b H3 =>
        if b = true then te σ2 H3 fun y H4 => ∃ acc, H4 D = some (.lst acc) ∧ acc.length < sizeLine ∧ Nx (upd H4 D (.lst (acc ++ [y]))) else Nx H3) := by
  refine lc_it w (fun i H => ∃ acc, acc.length = i ∧ H D = some (.lst acc) ∧ Rel H1 H ∧ ∀ (j : Nat) y, acc[j]? = some y → Good j y H) ⟨[], rfl, upd_same, kp.put _ _ _ kp.refl hD, fun j y e => by simp at e⟩ (fun i H _ ⟨_, _, _, r, _⟩ => hG H r) (fun i x H H' hi ⟨acc, hl, hDa, r, hg⟩ hy => ?_) (fun H ⟨acc, hl, hDa, r, hg⟩ => hd acc H hl hg r hDa)
  refine hs i x H H' acc _ hi r hDa hy fun y H4 r4 gy => ?_
  have hD4 := kp.get _ _ _ _ r4 hD r hDa
  have r5 := kp.trans _ _ r r4
  refine ⟨acc, hD4, by omega, acc ++ [y], by simp [hl], upd_same, kp.put _ _ _ r5 hD, fun j z e => ?_⟩
  rcases Nat.lt_or_ge j acc.length with h | h
  · rw [List.getElem?_append_left h] at e
    exact pt _ _ _ _ _ r5 hD4 (st _ _ _ _ r r4 (hg j z e))
  · rw [List.getElem?_append_right h] at e
    have hj : j - acc.length = 0 := by
      rcases Nat.lt_or_ge (j - acc.length) 1 with z | z
      · omega
      · rw [List.getElem?_eq_none (by simpa using z)] at e; cases e
    rw [hj] at e
    have : y = z := Option.some.inj e
    subst this
    have : j = i := by omega
    subst this
    exact pt _ _ _ _ _ r5 hD4 gy
end LX
set_option maxHeartbeats 2000000
namespace LX
open PySem PySem.Spec PyProof.Rows L2 C8 SX
theorem S_contains (sg : List Nat) (c : Nat) : (S sg).cps.contains c = decide (c ∈ sg) := by
  rw [Bool.eq_iff_iff, decide_eq_true_eq, ← Array.contains_toList]
  simp [S]
theorem S_empty {l : List Nat} : S l = S [] ↔ l = [] := by
  constructor
  · intro h
    have : (S l).cps.toList = (S []).cps.toList := congrArg (fun z : Str => z.cps.toList) h
    simpa [S] using this
  · rintro rfl; rfl
theorem takeWhile_all {p : Nat → Bool} : ∀ {l : List Nat}, (∀ c ∈ l, p c = true) → l.takeWhile p = l
  | [], _ => rfl
  | c :: l, h => by rw [List.takeWhile_cons, if_pos (h c List.mem_cons_self), takeWhile_all fun d hd => h d (List.mem_cons_of_mem _ hd)]
theorem takeWhile_short {p : Nat → Bool} : ∀ {l : List Nat}, ¬ (∀ c ∈ l, p c = true) → (l.takeWhile p).length < l.length ∧ ∃ d r, l.drop (l.takeWhile p).length = d :: r ∧ p d = false
  | [], h => absurd (fun _ h => nomatch h) h
  | c :: l, h => by
    by_cases hc : p c = true
    · have h' : ¬ ∀ c ∈ l, p c = true := fun q => h fun d hd => by
        rcases List.mem_cons.mp hd with rfl | z
        · exact hc
        · exact q d z
      obtain ⟨i1, d, r, i2, i3⟩ := takeWhile_short h'
      rw [List.takeWhile_cons, if_pos hc]
      exact ⟨Nat.succ_lt_succ i1, d, r, i2, i3⟩
    · rw [List.takeWhile_cons, if_neg hc]
      exact ⟨Nat.succ_pos _, c, l, rfl, by simpa using hc⟩
theorem strip_nil {l sg : List Nat} : Txt.stripChars (S l) (S sg) = S [] ↔ ∀ c ∈ l, c ∈ sg := by
  unfold Txt.stripChars Txt.stripBy stripSame stripped stripLo stripHi
  have eg : (S sg).cps.contains = fun c => decide (c ∈ sg) := funext fun c => S_contains sg c
  have el : (S l).cps.toList = l := rfl
  have en : (S l).length = l.length := S_len l
  rw [eg, if_pos rfl, if_pos rfl, el, en]
  generalize hp : (fun c => decide (c ∈ sg)) = p
  have hpc : ∀ c, p c = true ↔ c ∈ sg := fun c => by rw [← hp]; exact decide_eq_true_iff
  by_cases h : ∀ c ∈ l, p c = true
  · refine ⟨fun _ c hc => (hpc c).mp (h c hc), fun _ => ?_⟩
    rw [takeWhile_all h, List.drop_length, List.reverse_nil, List.takeWhile_nil, List.length_nil, Nat.sub_zero]
    by_cases e : l = []
    · subst e; rfl
    · have : l.length ≠ 0 := fun z => e (List.length_eq_zero_iff.mp z)
      rw [if_neg (by simpa using this)]
      show (⟨(S l).cps.extract l.length l.length⟩ : Str) = S []
      simp [S]
  · obtain ⟨i1, d, r, i2, i3⟩ := takeWhile_short h
    refine ⟨fun e => absurd e ?_, fun q => absurd (fun c hc => (hpc c).mpr (q c hc)) h⟩
    rw [i2]
    have hr : ¬ ∀ c ∈ (d :: r).reverse, p c = true := fun q => by have := q d (by simp); rw [i3] at this; cases this
    have j1 := (takeWhile_short hr).1
    have hlen : (d :: r).length = l.length - (l.takeWhile p).length := by rw [← i2, List.length_drop]
    rw [List.length_reverse] at j1
    by_cases same : ((l.takeWhile p).length == 0 && l.length - ((d :: r).reverse.takeWhile p).length == l.length) = true
    · rw [if_pos same]
      intro e
      have := S_empty.mp e
      subst this
      exact absurd i1 (by simp)
    · rw [if_neg same]
      intro e
      have e2 : ((S l).cps.extract (l.takeWhile p).length (l.length - ((d :: r).reverse.takeWhile p).length)).size = 0 := by
        have : (Builtin.Str.strSub (S l) (l.takeWhile p).length (l.length - ((d :: r).reverse.takeWhile p).length)).cps = (S []).cps := by rw [e]
        rw [show (S l).cps.extract (l.takeWhile p).length (l.length - ((d :: r).reverse.takeWhile p).length) = (S []).cps from this]; rfl
      rw [Array.size_extract] at e2
      have e3 : (S l).cps.size = l.length := by simp [S]
      rw [e3] at e2
      omega
theorem strip_eq {l sg : List Nat} : decide (Txt.stripChars (S l) (S sg) = S []) = decide (∀ c ∈ l, c ∈ sg) := decide_eq_decide.mpr strip_nil
def az : List Nat := (List.range 26).map (· + 97)
theorem az_mem {c : Nat} : c ∈ az ↔ 97 ≤ c ∧ c ≤ 122 := by
  unfold az
  rw [List.mem_map]
  constructor
  · rintro ⟨i, hi, rfl⟩
    have := List.mem_range.mp hi
    omega
  · rintro ⟨h1, h2⟩
    exact ⟨c - 97, List.mem_range.mpr (by omega), by omega⟩
theorem s_az : (Str.ofString "abcdefghijklmnopqrstuvwxyz") = S az := by decide +kernel
end LX
namespace LX
open PySem PySem.Spec PyProof.Rows L2 C8 SX
def bx (x y z : Int) : HO := .lst [.int x, .int y, .int z]
def isBx (o : HO) : Prop := ∃ x y z : Int, o = bx x y z
def BoxAt (b : Addr) (H : Hp) : Prop := ∃ o, H b = some o ∧ isBx o
abbrev Bx (b : Addr) : Hp → Hp → Prop := Bk isBx b
theorem Bx.box {b : Addr} {H H' : Hp} (h : Bx b H H') : BoxAt b H' := h.2
theorem BoxAt.of {b : Addr} {H : Hp} {x y z : Int} (h : H b = some (bx x y z)) : BoxAt b H := ⟨_, h, _, _, _, rfl⟩
theorem Bx.mk {b : Addr} {H : Hp} (x y z : Int) : Bx b H (upd H b (bx x y z)) := ⟨fun a o n e => by rw [upd_ne n]; exact e, _, upd_same, _, _, _, rfl⟩
theorem Bx.trans {b : Addr} {H H1 H2 : Hp} (p : Bx b H H1) (q : Bx b H1 H2) : Bx b H H2 := ⟨fun a o n e => q.1 a o n (p.1 a o n e), q.2⟩
theorem box_ne {b p : Addr} {H : Hp} (h : BoxAt b H) (n : H p = none) : p ≠ b := by
  obtain ⟨o, e, _⟩ := h
  exact (ne_of_none e n).symm
theorem Bx.put {b p : Addr} {H H1 : Hp} {o : HO} (s : Bx b H H1) (h : BoxAt b H) (n : H p = none) : Bx b H (upd H1 p o) := (keep_bk h).put _ _ _ s n
theorem Bx.free {b p : Addr} {H H1 : Hp} (s : Bx b H H1) (n : H1 p = none) : H p = none := by
  cases q : H p with
  | none => rfl
  | some o =>
    by_cases e : p = b
    · subst e; obtain ⟨u, z, _⟩ := s.2; rw [n] at z; cases z
    · rw [s.1 p o e q] at n; cases n
theorem nil1 {σ : L2.St} {H : Hp} {R : List V → Hp → Prop} (h : R [] H) : tNil σ H R := h
theorem consc {v : V} {σ : L2.St} {H : Hp} {R : List V → Hp → Prop} (h : R [v] H) : tCons (tC v) tNil σ H R := h
theorem tc1 {v : V} {σ : L2.St} {H : Hp} {Q : VK} (h : Q v H) : tC v σ H Q := h
theorem ne_str {l r : Str} {H : Hp} {R : VK} (e : l = r) (h : R (.bl false) H) : rNe (.str l) (.str r) H R := ⟨rfl, by rw [decide_eq_true (by rw [e])]; exact h⟩
theorem bl_f {p : Bool → Prop} (h : p false) : ∃ k, V.bl false = V.bl k ∧ p k := ⟨false, rfl, h⟩
theorem if_f {p q : Prop} (h : q) : if false = true then p else q := h
theorem iteB {c : Bool} {A B : Prop} (hc : c = true) (h : A) : if c = true then A else B := by rw [if_pos hc]; exact h
theorem iteN {c : Bool} {A B : Prop} (hc : c = false) (h : B) : if c = true then A else B := by rw [hc]; exact iteF h
theorem perm_at {α : Type} : ∀ {xs : List α} {i : Nat} (h : i < xs.length), (xs[i] :: xs.eraseIdx i).Perm xs
  | x :: xs, 0, _ => List.Perm.refl _
  | x :: xs, i + 1, h => (List.Perm.swap x _ _).trans ((perm_at (xs := xs) (i := i) (Nat.lt_of_succ_lt_succ h)).cons x)
theorem eraseIdx_map' {α β : Type} (f : α → β) : ∀ (xs : List α) (i : Nat), (xs.map f).eraseIdx i = (xs.eraseIdx i).map f
  | [], i => by cases i <;> rfl
  | x :: xs, 0 => rfl
  | x :: xs, i + 1 => congrArg (f x :: ·) (eraseIdx_map' f xs i)
theorem perm_map_inv {α β : Type} {f : α → β} {g : β → α} (hg : ∀ a, g (f a) = a) {ys : List β} {xs : List α} (h : ys.Perm (xs.map f)) : ∃ zs : List α, ys = zs.map f ∧ zs.Perm xs := by
  refine ⟨ys.map g, ?_, ?_⟩
  · rw [List.map_map]
    have : ys.map (f ∘ g) = ys.map id := List.map_congr_left fun y hy => by
      obtain ⟨a, _, rfl⟩ := List.mem_map.mp (h.subset hy)
      show f (g (f a)) = f a
      rw [hg]
    rw [this, List.map_id]
  · have e := h.map g
    rw [List.map_map] at e
    have : xs.map (g ∘ f) = xs.map id := List.map_congr_left fun a _ => hg a
    rw [this, List.map_id] at e
    exact e
theorem sums_singles : ∀ l : List Nat, ((l.map fun c => S [c]).map (·.length)).sum = l.length
  | [] => rfl
  | c :: l => by simp only [List.map_cons, List.sum_cons, sums_singles l, List.length_cons]; rw [S_len]; simp; omega
theorem join_nil : ∀ ys : List (List Nat), TL.joinL [] ys = ys.flatten
  | [] => rfl
  | [y] => by simp [TL.joinL]
  | y :: z :: ys => by
    have ih := join_nil (z :: ys)
    simp [TL.joinL] at ih ⊢
    exact ih
theorem join_txs (ys : List (List Nat)) : Txt.join (S []) (ys.map S) = S ys.flatten := by rw [join_S, join_nil]
theorem flat_singles : ∀ l : List Nat, (l.map fun c => [c]).flatten = l
  | [] => rfl
  | c :: l => by rw [List.map_cons, List.flatten_cons, flat_singles l]; rfl
theorem join_singles (l : List Nat) : Txt.join (S []) (l.map fun c => S [c]) = S l := by
  have e1 : (l.map fun c => S [c]) = (l.map fun c => [c]).map S := by rw [List.map_map]; rfl
  rw [e1, join_txs, flat_singles]
theorem rising_singles : ∀ (ds : List Nat) (c : Nat), risingS (S [c]) (ds.map fun d => S [d]) = true → (∀ d ∈ ds, c ≤ d) ∧ ds.Pairwise (· ≤ ·)
  | [], _, _ => ⟨fun _ h => (nomatch h), .nil⟩
  | d :: ds, c, h => by
    have h' : (!ltCps [d] [c] && risingS (S [d]) (ds.map fun d => S [d])) = true := h
    rw [Bool.and_eq_true, Bool.not_eq_true'] at h'
    obtain ⟨h1, h2⟩ := h'
    obtain ⟨i1, i2⟩ := rising_singles ds d h2
    have hcd : c ≤ d := by
      rcases Nat.lt_or_ge d c with q | q
      · simp [ltCps, q] at h1
      · exact q
    refine ⟨fun e he => ?_, List.pairwise_cons.mpr ⟨i1, i2⟩⟩
    rcases List.mem_cons.mp he with rfl | he
    · exact hcd
    · exact Nat.le_trans hcd (i1 e he)
theorem sorted_singles {ds : List Nat} (h : sortedS (ds.map fun d => S [d]) = true) : ds.Pairwise (· ≤ ·) := by
  cases ds with
  | nil => exact .nil
  | cons d ds =>
    obtain ⟨i1, i2⟩ := rising_singles ds d h
    exact List.pairwise_cons.mpr ⟨i1, i2⟩
theorem strict_of {ds : List Nat} (h : ds.Pairwise (· ≤ ·)) (n : ds.Nodup) : ds.Pairwise (· < ·) :=
  (h.and n).imp fun ⟨a, b⟩ => Nat.lt_of_le_of_ne a b
open Classical in
theorem fun_of {α γ : Type} [DecidableEq α] [Inhabited γ] {sg : List α} (n : sg.Nodup) {P : Nat → α → γ → Prop} (h : ∀ j c, sg[j]? = some c → ∃ v, P j c v) : ∃ g : α → γ, ∀ j c, sg[j]? = some c → P j c (g c) := by
  refine ⟨fun c => if q : ∃ v, P (sg.idxOf c) c v then q.choose else default, fun j c e => ?_⟩
  have hj : j = sg.idxOf c := by
    obtain ⟨hl, e2⟩ := List.getElem?_eq_some_iff.mp e
    subst e2
    exact (n.idxOf_getElem j hl).symm
  have q : ∃ v, P (sg.idxOf c) c v := hj ▸ h j c e
  show P j c (dite _ _ _)
  rw [dif_pos q, hj]
  exact q.choose_spec
theorem paired_map {α β γ : Type} {R : α → β → Prop} {f : γ → α} {g : γ → β} : ∀ {l : List γ}, (∀ c ∈ l, R (f c) (g c)) → Paired R (l.map f) (l.map g)
  | [], _ => .nil
  | c :: l, h => .cons (h c List.mem_cons_self) (paired_map fun d hd => h d (List.mem_cons_of_mem _ hd))
abbrev tk (l : List Nat) : Key := Sum.inr (S l)
theorem tk_inj {l r : List Nat} (h : tk l = tk r) : l = r := by
  have e : S l = S r := Sum.inr.inj h
  have : (S l).cps.toList = (S r).cps.toList := by rw [e]
  simpa [S] using this
theorem valV_none {kvs : List (Key × V)} {k : Key} (h : ∀ p ∈ kvs, p.1 ≠ k) : valV kvs k = none := by
  unfold valV
  rw [List.find?_eq_none.mpr fun p hp => by simpa using h p hp]
  rfl
theorem valV_map' {α : Type} [DecidableEq α] {key : α → Key} (inj : ∀ a b, key a = key b → a = b) {f : α → V} : ∀ {l : List α} {c : α}, c ∈ l → valV (l.map fun a => (key a, f a)) (key c) = some (f c)
  | a :: l, c, h => by
    by_cases e : a = c
    · subst e; exact valV_pos rfl
    · rw [List.map_cons, valV_neg (fun q => e (inj _ _ q))]
      refine valV_map' inj ?_
      rcases List.mem_cons.mp h with q | q
      · exact absurd q.symm e
      · exact q
theorem merge_new : ∀ {more kvs : List (Key × V)}, (∀ p ∈ more, ∀ q ∈ kvs, q.1 ≠ p.1) → (more.map (·.1)).Nodup → mergeK kvs more = kvs ++ more
  | [], kvs, _, _ => by rw [List.append_nil]; rfl
  | p :: more, kvs, h, n => by
    have e : putK kvs p.1 p.2 = kvs ++ [p] := putK_new _ (valV_none fun q hq => h p List.mem_cons_self q hq)
    show mergeK (putK kvs p.1 p.2) more = _
    rw [List.map_cons, List.nodup_cons] at n
    rw [e, merge_new (fun r hr q hq => ?_) n.2, List.append_assoc]
    · rfl
    · rcases List.mem_append.mp hq with hq | hq
      · exact h r (List.mem_cons_of_mem _ hr) q hq
      · rw [List.mem_singleton] at hq
        subst hq
        exact fun e => n.1 (e ▸ List.mem_map_of_mem hr)
theorem merge_nil {more : List (Key × V)} (n : (more.map (·.1)).Nodup) : mergeK [] more = more := by
  rw [merge_new (fun _ _ q h => absurd h List.not_mem_nil) n]; rfl
theorem nodup_keys {α : Type} {key : α → Key} (inj : ∀ a b, key a = key b → a = b) {f : α → V} {l : List α} (n : l.Nodup) : ((l.map fun a => (key a, f a)).map (·.1)).Nodup := by
  rw [List.map_map]
  exact List.pairwise_map.mpr (n.imp fun h e => h (inj _ _ e))
theorem cut_to (ys : List (List Nat)) (k : Nat) : cutV (txs ys) none (some (k : Int)) = txs (ys.take k) := by
  unfold cutV
  rw [HT.sIx_none, HT.sIx_nat, List.drop_zero, Nat.sub_zero, txs_len]
  unfold txs
  rw [← List.map_take]
  rcases Nat.le_total k ys.length with h | h
  · rw [Nat.min_eq_left h]
  · rw [Nat.min_eq_right h, List.take_length, List.take_of_length_le h]
theorem tup_ne_box {H : Hp} {t b : Addr} {xs : List V} (hb : BoxAt b H) (ht : H t = some (.tup xs)) : t ≠ b := by
  obtain ⟨o, e, x, y, z, rfl⟩ := hb
  exact ne_of ht e (by intro h; cases h)
theorem dict_ne_box {H : Hp} {t b : Addr} {xs : List (Key × V)} (hb : BoxAt b H) (ht : H t = some (.dK xs)) : t ≠ b := by
  obtain ⟨o, e, x, y, z, rfl⟩ := hb
  exact ne_of ht e (by intro h; cases h)
theorem not_in_take {α : Type} [DecidableEq α] {ms : List α} {i : Nat} {m : α} (n : ms.Nodup) (h : ms[i]? = some m) : m ∉ ms.take i := fun hm => by
  obtain ⟨j, hj⟩ := List.getElem?_of_mem hm
  have hji : j < i := by
    have := (List.getElem?_eq_some_iff.mp hj).1
    rw [List.length_take] at this; omega
  rw [List.getElem?_take_of_lt hji] at hj
  have h1 := (List.getElem?_eq_some_iff.mp h)
  have h2 := (List.getElem?_eq_some_iff.mp hj)
  obtain ⟨a1, a2⟩ := h1
  obtain ⟨b1, b2⟩ := h2
  have e1 : ms.idxOf m = i := by subst a2; exact n.idxOf_getElem i a1
  have e2 : ms.idxOf m = j := by subst b2; exact n.idxOf_getElem j b1
  omega
theorem take_more {α : Type} {ms : List α} {i : Nat} {m : α} (h : ms[i]? = some m) : ms.take (i + 1) = ms.take i ++ [m] := by
  rw [List.take_succ, h]; rfl
theorem sz {n m : Nat} (h : n ≤ m) (hm : m ≤ 1000) : n ≤ sizeLine := Nat.le_trans (Nat.le_trans h hm) (show 1000 ≤ sizeLine by decide)
end LX
set_option maxHeartbeats 2000000
namespace LX
open PySem PySem.Spec PyProof.Rows L2 C8 SX
structure FnG (P : Program) (w : World) (K : PySem.W.Frag) (mg : Str → Option Value) (base : Heap) (k : Nat) (f : Addr) (fd : FuncData) (ps : List Str) (sp : Sp) : Prop where
  many : ∀ vs H Q E, sp vs H Q E → vs.length = ps.length
  goes : ∀ (A : Around) (ou : List Env) (t : Shared) (H : Hp) (gs : Args) (us : List Value) (vs : List V) (Q : VK) (E : XK), A.guards = some [] → Room k A → Env0 P w K mg base A ou t H → BindsTo t fd gs (ps.zip us) → Vals vs us →
    sp vs H Q E → codeAny (model P w) A (.call (.ref f) gs) (CR C8.CX0 ou P w H t Q E) t
theorem FnG.of {P : Program} {w : World} {K : PySem.W.Frag} {mg : Str → Option Value} {base : Heap} {k : Nat} {f : Addr} {fd : FuncData} {ps : List Str} {sp : Sp} (F : FnOk P w K mg base C8.CX0 k f fd ps sp) : FnG P w K mg base k f fd ps sp :=
  ⟨F.len, fun A ou t H gs us vs Q E _ => F.run A ou t H gs us vs Q E⟩
theorem fnG0 {P : Program} {w : World} {K : PySem.W.Frag} {mg : Str → Option Value} {base : Heap} {x ql : Str} {st : Stmt} {f : Addr} {fd : FuncData} {N ps : List Str} {k : Nat} {sp : Sp} (F : C8.Fun K x ql st f fd) (Sc : FnScope N ps (C8.fnScope st))
    (many : ∀ vs H Q E, sp vs H Q E → vs.length = ps.length)
    (h : ∀ (cd : Value) (A : Around) (ou : List Env) (t : Shared) (H : Hp) (vs : List V) (Q : VK) (E : XK), A.guards = some [] → Room k (A.deeper (envOfC ql (C8.fnScope st) t.heap.objs.size f cd)) → sp vs H Q E →
      ∃ r, PSs (cxOf C8.CX0 P w K mg base N ql (C8.fnScope st) f cd A ou t H E).nox (C8.fnBody st) r ∧ r { nx := fun _ H' => Q .non H', rt := Q } (L2.start N vs) H) : FnG P w K mg base (k + 1) f fd ps sp := by
  obtain ⟨oc, od, dV, kV, doc, pm, an, cd, ct, osl, rfl, at_, code⟩ := F.ex
  constructor
  · exact many
  intro A ou t H gs us vs Q E gd room e0 bound rel want
  have count := many _ _ _ _ want
  have old : ∀ (b : Addr) (o : Obj), base.get? b = some o → t.heap.get? b = some o := fun b o e => (e0.bs b o e).1
  have KT : K.In t.heap := e0.mod.kin.keeps old
  have kinds : ∀ y ∈ ps.zip us, (C8.fnScope st).names.lookup y.1 = some .local ∨ ((C8.fnScope st).names.lookup y.1 = some .cell ∧ ((cellsFrom (t.heap.objs.size + 1) (C8.fnScope st).names []).lookup y.1).isSome = true) := by
    intro y hy
    obtain ⟨n, v⟩ := y
    exact (Sc.par n (List.of_mem_zip hy).1).elim .inl fun q => .inr ⟨q, PySem.W.cellsFrom_some _ _ _ (.inl q)⟩
  refine codeAny_call_function room.depth (KT _ _ at_) rfl Sc.co Sc.gen rfl (PySem.W.codeRec_of KT code) (bound _ _ _ _ ?_)
  refine wpAny_newFunctionEnv_cells Sc.kind kinds fun en en_is t1 inside => ?_
  subst en_is
  refine ⟨(e0.mod.nolimit.keeps old).keeps inside.toInCall.keep, codeAny_func ?_⟩
  obtain ⟨r, body, read⟩ := h cd A ou t H vs Q E gd (room.deeper _) want
  have I0 := inv_start (CX := C8.CX0) (E := E) Sc room.hd e0 count rel inside
  refine wpAny_mono (body.nox.run [] t1 (L2.start N vs) H _ I0 read) (fun fl t' got => ?_) fun _ _ got => got
  cases fl with
  | ret u => exact let ⟨v, _, H', J, rv, q⟩ := got; ⟨v, H', J.os, J.bare, J.base, J.hok, rv, q⟩
  | next => exact let ⟨_, H', J, q⟩ := got; ⟨.non, H', J.os, J.bare, J.base, J.hok, rfl, q⟩
  | brk => exact let ⟨_, _, _, q⟩ := got; False.elim q
  | cont => exact let ⟨_, _, _, q⟩ := got; False.elim q
structure CalG (P : Program) (w : World) (K : PySem.W.Frag) (mg : Str → Option Value) (base : Heap) (k : Nat) (x : Str) (sp : Sp) : Prop where
  ex : ∃ (f : Addr) (fd : FuncData) (ps : List Str), FnG P w K mg base k f fd ps sp ∧ mg x = some (.ref f) ∧ PySem.W.keepIn K (.ref f) = true ∧ Binds K fd ps []
structure MetG (P : Program) (w : World) (K : PySem.W.Frag) (mg : Str → Option Value) (base : Heap) (k : Nat) (C : Addr) (m : Str) (sp : Sp) : Prop where
  ex : ∃ (f : Addr) (fd : FuncData) (ps : List Str), Cls K C ∧ Meth K C m f ∧ FnG P w K mg base k f fd ps sp ∧ Binds K fd ps []
section
variable {X : Cx} {k j : Nat} {f C : Addr} {fd : FuncData} {ps : List Str} {sp : Sp} {x m : Str} {p pos apos : Pos} {e o : Expr} {es : List Expr} {ta : TE} {t : TA}
theorem goesG {pins : List (Addr × Obj)} {σ : L2.St} {H : Hp} {s : Shared} {Q : VK} {us : List Value} {vs : List V} (F : FnG X.prog X.w X.K X.mg X.base k f fd ps sp) (gd : X.A.guards = some []) (room : Room k X.A) (bd : Binds X.K fd ps [])
    (I : Inv X pins σ H s) (rel : Vals vs us) (want : sp (vs ++ []) H Q C8.E0) : wpAny (model X.prog X.w) X.A (call (.ref f) us) (EP X pins σ Q) X.xe s := by
  rw [List.append_nil] at want
  have count : (us ++ []).length = ps.length := by rw [List.append_nil, ← rel.length]; exact F.many _ _ _ _ want
  have bs := bd s us I.kIn count
  rw [List.append_nil] at bs
  refine wpAny_call (codeAny_mono (F.goes X.A X.stack s H ⟨us, []⟩ us vs Q C8.E0 gd room I.env0 bs rel want) fun r t' got => ?_)
  match r, got with
  | .ok (.ret u), got => exact I.after got
theorem pe_cG (c : CalG X.prog X.w X.K X.mg X.base k x sp) (gd : X.A.guards = some []) (room : Room j X.A) (hk : k ≤ j) (hg : Gl X x) (ha : PA X (e :: es) t) (hdb : (x == ("__debug__" : Str)) = false := by decide)
    (he : starEach (e :: es) X.env = (false, eval e X.env) :: starEach es X.env := by rfl) (hpl : (backTo pos (starEach es X.env)).any (·.1) = false := by rfl) : PE X (.Call (.Name x p) (e :: es) [] pos) (tCall sp [] C8.E0 t) := by
  obtain ⟨f, fd, ps, F, named, kept, bd⟩ := c.ex
  constructor
  intro pins s σ H Q I want
  refine wpAny_Call_Name_kw (ld_glob I hg named ?_ hdb)
  refine PySem.W.callWith_K (h₀ := X.base) I.ok.mod.kin kept (thn (ha.run pos pins s σ H _ I want) ?_) he hpl
  rintro us s1 ⟨vs, H1, I1, rel, q⟩
  exact ⟨I1.kIn, goesG F gd (room.mono hk) bd I1 rel q⟩
theorem call_reprG (gd : X.A.guards = some []) (room : Room j X.A) : CallR X (.builtin "repr") (fun xs H Q => ∃ (a : Addr) (d : PyData), xs = [.ref a] ∧ Dp X.K H (.ref a) d ∧ d.showable = true ∧ d.hasDict = false ∧ d.depth ≤ 60 ∧ d.shown.length ≤ sizeLine ∧ Q (.str d.shown) H) := by
  intro pins s σ H xs us Q I rel want
  obtain ⟨a, d, rfl, hd, sh, nd, dep, sz, q⟩ := want
  obtain ⟨u, rfl, ru⟩ := vals1 rel
  obtain rfl : u = Value.ref a := ru
  obtain ⟨as, rd⟩ := Dp.reads I d (.ref a) (.ref a) hd rfl
  have un := room.un
  refine repr_of_reads' rd sh (PyData.noDict_hsm nd) gd (by omega) (fun _ _ z => z) (fun h' u tk kept => ?_) sz
  exact ⟨.str d.shown, H, I.kept kept, ⟨_, rfl⟩, q⟩
end
abbrev Done (s s' : Shared) (r : Result) : Prop := r = .ok (.ret (.bool true)) ∧ OldK s.heap s'.heap ∧ s'.os = s.os ∧ AllBare s'.gens
section
variable {P : Program} {w : World} {K : PySem.W.Frag} {mg mb : Str → Option Value} {k : Nat} {fa a : Addr} {fd : FuncData} {x : Str} {sp : Sp} {s : Shared} {vs : List Value} {ns : List Int}
theorem lawG_at {H : Hp} (KX : K.In s.heap) (hns : s.heap.Ns mainGlobals mg) (hb : s.heap.Ns builtinsNs mb) (hbb : ∀ x : Str, x ≠ "__name__" → mb x = bootBuiltins x) (lim : s.heap.NoLimit) (gens : s.gens = #[])
    (ha : s.heap.get? a = some { cls := .type "list", data := .seq vs.toArray }) (room : Room k callerA) (F : ∀ base : Heap, K.In base → base.Ns mainGlobals mg → FnG P w K mg base k fa fd [x] sp)
    (bd : ∀ (s : Shared) (u : Value), BindsTo s fd ⟨[u], []⟩ [(x, u)]) (only : Only H) (want : sp [.ref a] H (fun v _ => v = .bl true) C8.E0) (ok : HOk P w H s.heap) (at_a : ∀ b, H b ≠ none → b = a) (not_K : H a ≠ none → K.lookup a = none) :
    codeAny (model P w) callerA (.call (.ref fa) ⟨[.ref a], []⟩) (fun r s' => Done s s' r) s := by
  have free : ∀ {b : Addr}, b ≠ a → H b = none := fun {b} hn => by
    cases q : H b with
    | none => rfl
    | some u => exact absurd (at_a b (by rw [q]; simp)) hn
  have dict_free : ∀ {b : Addr} {o : Obj} {es : Array DictEntry} {ep : Nat}, s.heap.get? b = some o → o.data = .dict es ep → H b = none := fun {b o es ep} e d => free fun eq => by
    rw [eq, ha] at e
    cases e
    have d2 : Data.seq vs.toArray _ = Data.dict es ep := d
    cases d2
  have names : ∀ {b : Addr} {m : Str → Option Value}, s.heap.Ns b m → (hidT s.heap H).Ns b m := fun {b m} ⟨o, es, ep, e, d, r⟩ => ⟨o, es, ep, hidT_get e (dict_free e d), d, r⟩
  have hK : K.In (hidT s.heap H) := fun b o e => hidT_get (KX b o e) (by
    by_cases eq : b = a
    · subst eq
      cases q : H b with
      | none => rfl
      | some u => rw [not_K (by rw [q]; simp)] at e; cases e
    · exact free eq)
  have md : Mod K mg (hidT s.heap H) := by
    obtain ⟨mc, c1, c2⟩ := lim
    exact ⟨hK, names hns, ⟨mb, names hb, hbb⟩, mc, names c1, c2⟩
  have e0 : Env0 P w K mg (hidT s.heap H) callerA [] s H := ⟨rfl, md, fun _ _ e => of_hidT e, Nat.le_of_eq (hidT_size _ _), trivial, fun _ hm => absurd hm (List.not_mem_nil), ok, .of_eq gens⟩
  refine codeAny_mono ((F _ hK (names hns)).goes callerA [] s H ⟨[.ref a], []⟩ [.ref a] [.ref a] _ _ rfl room e0 (bd s (.ref a)) (.cons rfl .nil) want) fun r t got => ?_
  match r, got with
  | .ok (.ret u), got =>
    obtain ⟨v, H2, os, bare, un, ok2, rel, is_true⟩ := got
    obtain rfl : v = V.bl true := is_true
    obtain rfl : u = Value.bool true := rel
    refine ⟨rfl, OldK.of_keep fun b o e => ?_, os, bare⟩
    rcases only b with none_ | ⟨ob, xs, frozen⟩
    · exact un.keep b o e none_ (fun z => absurd z List.not_mem_nil) (by simp)
    · obtain ⟨e1, _⟩ := ok b _ frozen
      obtain ⟨e2, _⟩ := ok2 b _ (un.frzs b ob _ frozen)
      rw [e] at e1
      cases e1
      exact e2
theorem lawG_call (KX : K.In s.heap) (hns : s.heap.Ns mainGlobals mg) (hb : s.heap.Ns builtinsNs mb) (hbb : ∀ x : Str, x ≠ "__name__" → mb x = bootBuiltins x) (lim : s.heap.NoLimit) (gens : s.gens = #[])
    (ha : s.heap.get? a = some { cls := .type "list", data := .seq vs.toArray }) (hi : IntsAre vs ns) (hl : ns.length ≤ sizeLine) (room : Room k callerA) (F : ∀ base : Heap, K.In base → base.Ns mainGlobals mg → FnG P w K mg base k fa fd [x] sp)
    (bd : ∀ (s : Shared) (u : Value), BindsTo s fd ⟨[u], []⟩ [(x, u)]) (want : ∀ H : Hp, Only H → SqL K H a (ns.map V.int) → sp [.ref a] H (fun v _ => v = .bl true) C8.E0) :
    codeAny (model P w) callerA (.call (.ref fa) ⟨[.ref a], []⟩) (fun r s' => Done s s' r) s := by
  have rel := vals_ints hi
  cases own : K.lookup a with
  | some o =>
    have e := KX a o own
    rw [ha] at e
    cases e
    have only : Only (fun _ => none : Hp) := fun _ => .inl rfl
    have sq : SqL K (fun _ => none) a (ns.map V.int) := .inr ⟨_, vs.toArray, _, own, rfl, rfl, rfl, by rw [List.size_toArray, hi.length]; exact hl, by simpa using rel⟩
    refine lawG_at KX hns hb hbb lim gens ha room F bd only (want _ only sq) ?_ (fun b z => absurd rfl z) fun z => absurd rfl z
    intro b u z
    have z2 : (none : Option HO) = some u := z
    cases z2
  | none =>
    let one : HO := .frz { cls := .type "list", data := .seq vs.toArray } (.lst (ns.map V.int))
    let H : Hp := fun b => if b = a then some one else none
    have here : H a = some one := if_pos rfl
    have else_ : ∀ {b : Addr}, b ≠ a → H b = none := fun hn => if_neg hn
    have only : Only H := fun b => by
      by_cases e : b = a
      · exact .inr ⟨_, _, by rw [e]; exact here⟩
      · exact .inl (else_ e)
    refine lawG_at KX hns hb hbb lim gens ha room F bd only (want H only (.inl (.inr ⟨_, here⟩))) (fun b u z => ?_) (fun b z => ?_) fun _ => own
    · by_cases e : b = a
      · subst e
        rw [here] at z
        cases z
        exact ⟨ha, by rw [List.length_map]; exact hl, vs, _, rel, ha⟩
      · rw [else_ e] at z
        cases z
    · by_cases e : b = a
      · exact e
      · exact absurd (else_ e) z
end
theorem walkG {l : PySem.W.OpenLaw} {n k : Nat} {q : Program} {loose : List Str} {XP : (Str → Option Value) → Heap → Prop} {YP : World → Heap → Prop} {d : DefRec} {K : Params → PySem.W.Frag} {sp : PySem.W.Frag → Sp} {x : Str} (hn : l.most = some n) (hn2 : n ≤ sizeLine)
    (hdf : d.params.defaults = []) (room : Room k callerA) (hY : ∀ (w : World) (h : Heap), YP w h → (K w.params).In h)
    (F : ∀ (w : World) (mg : Str → Option Value) (fa : Addr) (h : Heap), (K w.params).In h → h.Ns mainGlobals mg → mg d.name = some (.ref fa) →
      ∃ fd : FuncData, (∀ (s : Shared) (u : Value), BindsTo s fd ⟨[u], []⟩ [(x, u)]) ∧ ∀ base : Heap, (K w.params).In base → base.Ns mainGlobals mg → FnG l.prog w (K w.params) mg base k fa fd [x] (sp (K w.params)))
    (want : ∀ (K : PySem.W.Frag) (H : Hp) (a : Addr) (ns : List Int), ns.length ≤ n → Only H → SqL K H a (ns.map V.int) → sp K [.ref a] H (fun v _ => v = .bl true) C8.E0) : PySem.W.WalkO q loose XP YP l.row.toRowW d [] (fun f vs => PySem.call f vs) := by
  refine Att.attach_call hn hdf ?_
  intro w s0 s1 mg mb fa o pm cd doc a vs ns G Y _ _ _ named list_ nums few gens
  have KX := hY w _ Y
  obtain ⟨fd, bd, F1⟩ := F w mg fa _ KX G.T.g named
  exact lawG_call KX G.T.g G.T.b G.T.builtins G.T.nolimit gens list_ nums (Nat.le_trans few hn2) room F1 bd fun H only sq => want _ H a ns few only sq
end LX
set_option maxHeartbeats 2000000
namespace LX
open PySem PySem.Spec PyProof.Rows L2 C8 SX
section
variable {prog : Program} {w : World} {A : Around} {E : Value → Shared → Prop} {s : Shared} {z TI TO i1 i2 : Addr} {fp1 fp2 : List Addr} {n1 n2 i : Nat} {P1 P2 : Nat → Value → Prop} {St1 St2 : Nat → Heap → Prop}
theorem zipD2_item_held {T : Addr} {f : Bool} {oT : Obj} {Q : Value → Shared → Prop} (S : ZipSep2 z TI TO i1 i2 fp1 fp2) (D1 : Draws prog w A i1 fp1 n1 P1 St1) (D2 : Draws prog w A i2 fp2 n2 P2 St2)
    (hz : IsZipHeld s.heap z TI TO T f) (hT : s.heap.get? T = some oT) (hTI : IsTupOf2 s.heap TI (.ref i1) (.ref i2)) (st1 : St1 i s.heap) (st2 : St2 i s.heap) (hlt1 : i < n1) (hlt2 : i < n2)
    (hQ : ∀ x1 x2 h' tk, P1 i x1 → P2 i x2 → IsZipHeld h' z TI TO T true → St1 (i + 1) h' → St2 (i + 1) h' → IsTupOf2 h' s.heap.objs.size x1 x2 → h'.objs.size = s.heap.objs.size + 1 →
      (∀ c o, c ≠ z → c ≠ i1 → c ≠ i2 → s.heap.get? c = some o → h'.get? c = some o) → Q (.ref s.heap.objs.size) { s with heap := h', toks := tk }) :
    wpAny (model prog w) A (Builtin.«zip.__next__» ⟨[.ref z], []⟩) (fun fin s' => ∃ v, fin = .done (.ret v) ∧ Q v s') E s := by
  show wpAny _ _ (field (.ref z) 2 >>= _) _ _ _
  refine wpAny_bind (wpAny_field hz rfl (x := .bool false) rfl ?_)
  show wpAny _ _ (field (.ref z) 3 >>= _) _ _ _
  refine wpAny_bind (wpAny_field hz rfl (x := .ref TI) rfl ?_)
  refine wpAny_bind (wpAny_seqItems hTI rfl ?_)
  show wpAny _ _ (Builtin.SmallTypes.ownedTupleIsFree (.ref z) >>= _) _ _ _
  refine wpAny_bind (wpAny_tupleHeld_zip hz hT fun h₁ hz₁ hs₁ => ?_)
  simp only [Bool.false_eq_true, if_false]
  refine wpAny_bind ?_
  rw [← Array.forIn_toList]
  simp only [List.forIn_cons, List.forIn_nil]
  refine wpAny_bind (wpAny_bind (wpAny_holding ?_))
  show wpAny _ _ (Builtin.SmallTypes.nextOf (.ref i1) >>= _) _ _ _
  refine wpAny_bind (D1.item i _ _ _ hlt1 (D1.over st1 hs₁ S.zf1) fun x1 h₂ tk₁ p1 h1₂ hs₂ => wpAny_pure ?_)
  refine wpAny_pure ?_
  refine wpAny_bind (wpAny_bind (wpAny_holding ?_))
  show wpAny _ _ (Builtin.SmallTypes.nextOf (.ref i2) >>= _) _ _ _
  refine wpAny_bind (D2.item i _ _ _ hlt2 (D2.over (D2.over st2 hs₁ S.zf2) hs₂ S.sep1_2) fun x2 h₃ tk₂ p2 h2₃ hs₃ => wpAny_pure ?_)
  refine wpAny_pure (wpAny_pure ?_)
  show wpAny _ _ (newTuple [x1, x2] >>= _) _ _ _
  refine wpAny_bind (wpAny_newTuple ?_)
  have hsz : h₃.objs.size = s.heap.objs.size := by rw [hs₃.1, hs₂.1, hs₁.1]
  have hz₃ : IsZipHeld h₃ z TI TO T true := hs₃.extBut _ _ S.zi2 (hs₂.extBut _ _ S.zi1 hz₁)
  have hk : ∀ c o, c ≠ z → c ≠ i1 → c ≠ i2 → s.heap.get? c = some o → h₃.get? c = some o := fun c o c1 c2 c3 e => hs₃.extBut _ _ c3 (hs₂.extBut _ _ c2 (hs₁.extBut _ _ c1 e))
  have h1₃ : St1 (i + 1) h₃ := D1.over h1₂ hs₃ S.sep2_1
  refine wpAny_pure ⟨_, rfl, ?_⟩
  show Q (.ref h₃.objs.size) _
  have hp : IsTupOf2 (h₃.push { cls := .type "tuple", data := .seq #[x1, x2] }) h₃.objs.size x1 x2 := Heap.get?_push_size _ rfl
  have hz4 : (h₃.push { cls := .type "tuple", data := .seq #[x1, x2] }).objs.size = h₃.objs.size + 1 := Heap.size_push ..
  rw [hsz] at hp hz4 ⊢
  exact hQ x1 x2 _ tk₂ p1 p2 (Heap.get?_push_of_some _ hz₃) (D1.frame _ _ _ h1₃ fun b _ o e => Heap.get?_push_of_some _ e) (D2.frame _ _ _ h2₃ fun b _ o e => Heap.get?_push_of_some _ e) hp hz4 fun c o c1 c2 c3 e => Heap.get?_push_of_some _ (hk c o c1 c2 c3 e)
theorem zipD2_end_held {T : Addr} {f : Bool} {oT : Obj} {Q : Fin → Shared → Prop} (S : ZipSep2 z TI TO i1 i2 fp1 fp2) (D1 : Draws prog w A i1 fp1 n1 P1 St1) (D2 : Draws prog w A i2 fp2 n1 P2 St2)
    (hz : IsZipHeld s.heap z TI TO T f) (hT : s.heap.get? T = some oT) (hTI : IsTupOf2 s.heap TI (.ref i1) (.ref i2)) (st1 : St1 n1 s.heap)
    (hE : ∀ h' e, (∀ c o, c ≠ z → c ≠ i1 → c ≠ i2 → s.heap.get? c = some o → h'.get? c = some o) → (∃ o, h'.get? e = some o ∧ o.cls = .type "StopIteration") → E (.ref e) { s with heap := h' }) :
    wpAny (model prog w) A (Builtin.«zip.__next__» ⟨[.ref z], []⟩) Q E s := by
  show wpAny _ _ (field (.ref z) 2 >>= _) _ _ _
  refine wpAny_bind (wpAny_field hz rfl (x := .bool false) rfl ?_)
  show wpAny _ _ (field (.ref z) 3 >>= _) _ _ _
  refine wpAny_bind (wpAny_field hz rfl (x := .ref TI) rfl ?_)
  refine wpAny_bind (wpAny_seqItems hTI rfl ?_)
  show wpAny _ _ (Builtin.SmallTypes.ownedTupleIsFree (.ref z) >>= _) _ _ _
  refine wpAny_bind (wpAny_tupleHeld_zip hz hT fun h₁ hz₁ hs₁ => ?_)
  simp only [Bool.false_eq_true, if_false]
  refine wpAny_bind ?_
  rw [← Array.forIn_toList]
  simp only [List.forIn_cons, List.forIn_nil]
  refine wpAny_bind (wpAny_bind (wpAny_holding ?_))
  show wpAny _ _ (Builtin.SmallTypes.nextOf (.ref i1) >>= _) _ _ _
  refine wpAny_bind (D1.done _ _ _ (D1.over st1 hs₁ S.zf1) fun h₂ e hs₂ he => ?_)
  exact hE h₂ e (fun c o c1 c2 _ x => hs₂ _ _ c2 (hs₁.extBut _ _ c1 x)) he
theorem pyNext_zipD2_item_held {T : Addr} {f : Bool} {oT : Obj} {Q : Option Value → Shared → Prop} (S : ZipSep2 z TI TO i1 i2 fp1 fp2) (D1 : Draws prog w A.in1 i1 fp1 n1 P1 St1) (D2 : Draws prog w A.in1 i2 fp2 n2 P2 St2)
    (hz : IsZipHeld s.heap z TI TO T f) (hT : s.heap.get? T = some oT) (hTI : IsTupOf2 s.heap TI (.ref i1) (.ref i2)) (st1 : St1 i s.heap) (st2 : St2 i s.heap) (hlt1 : i < n1) (hlt2 : i < n2)
    (hQ : ∀ x1 x2 h' tk, P1 i x1 → P2 i x2 → IsZipHeld h' z TI TO T true → St1 (i + 1) h' → St2 (i + 1) h' → IsTupOf2 h' s.heap.objs.size x1 x2 → h'.objs.size = s.heap.objs.size + 1 →
      (∀ c o, c ≠ z → c ≠ i1 → c ≠ i2 → s.heap.get? c = some o → h'.get? c = some o) → Q (some (.ref s.heap.objs.size)) { s with heap := h', toks := tk }) :
    wpAny (model prog w) A (pyNext (.ref z)) Q E s := by
  have hTy : s.TypeIs (.ref z) "zip" := ⟨_, hz, rfl⟩
  unfold pyNext
  exact wpAny_bind (wpAny_attempt (wpAny_callSpecial?_slot (name := Str.ofString "__next__") hTy F.slot_zip_next
    (wpAny_call_entry F.slot_zip_next hTy F.entry_zip_next
      (zipD2_item_held S D1 D2 hz hT hTI st1 st2 hlt1 hlt2 fun x1 x2 h' tk y1 y2 a1 a3 a4 a5 a6 a7 => wpAny_pure (hQ x1 x2 h' tk y1 y2 a1 a3 a4 a5 a6 a7)) (F.args_zip_next_1 _))))
theorem pyNext_zipD2_end_held {T : Addr} {f : Bool} {oT : Obj} {Q : Option Value → Shared → Prop} (S : ZipSep2 z TI TO i1 i2 fp1 fp2) (D1 : Draws prog w A.in1 i1 fp1 n1 P1 St1) (D2 : Draws prog w A.in1 i2 fp2 n1 P2 St2)
    (hz : IsZipHeld s.heap z TI TO T f) (hT : s.heap.get? T = some oT) (hTI : IsTupOf2 s.heap TI (.ref i1) (.ref i2)) (st1 : St1 n1 s.heap)
    (hQ : ∀ h', (∀ c o, c ≠ z → c ≠ i1 → c ≠ i2 → s.heap.get? c = some o → h'.get? c = some o) → Q none { s with heap := h' }) : wpAny (model prog w) A (pyNext (.ref z)) Q E s := by
  have hTy : s.TypeIs (.ref z) "zip" := ⟨_, hz, rfl⟩
  unfold pyNext
  refine wpAny_bind (wpAny_attempt (wpAny_callSpecial?_slot (name := Str.ofString "__next__") hTy F.slot_zip_next
    (wpAny_call_entry F.slot_zip_next hTy F.entry_zip_next (zipD2_end_held S D1 D2 hz hT hTI st1 fun h' e hk he => ?_) (F.args_zip_next_1 _))))
  obtain ⟨o, ho, hc⟩ := he
  refine wpAny_bind (wpAny_isInstance (T := "StopIteration") (b := true) ⟨o, ho, hc⟩ isSubtype_stop ?_)
  exact wpAny_pure (hQ _ hk)
theorem pairArg_zipD2 (S : ZipSep2 z TI TO i1 i2 fp1 fp2) (D1 : ∀ A : Around, A.handled = none → Draws prog w A i1 fp1 n1 P1 St1) (D2 : ∀ A : Around, A.handled = none → Draws prog w A i2 fp2 n1 P2 St2) :
    PairArg prog w "zip" z (z :: TI :: TO :: (fp1 ++ fp2)) [z, TO, i1, i2] n1 (fun i k v => P1 i k ∧ P2 i v)
      (fun h => IsZip h z TI TO .none ∧ IsTupOf2 h TI (.ref i1) (.ref i2) ∧ (∃ a b, IsTupOf2 h TO a b) ∧ St1 0 h ∧ St2 0 h ∧ ∀ b ∈ fp1 ++ fp2, ∃ o, h.get? b = some o) where
  type := fun s ok => ⟨_, ok.1, rfl⟩
  notDict := by decide
  keep := fun h h' ok hk => by
    obtain ⟨hz, hTI, ⟨a, b, hTO⟩, h1, h2, ex⟩ := ok
    exact ⟨hk _ _ hz, hk _ _ hTI, ⟨a, b, hk _ _ hTO⟩, (D1 callerA rfl).frame _ _ _ h1 fun b _ o e => hk b o e, (D2 callerA rfl).frame _ _ _ h2 fun b _ o e => hk b o e, fun b hb => let ⟨o, e⟩ := ex b hb; ⟨o, hk _ _ e⟩⟩
  there := fun h ok b hb => by
    obtain ⟨hz, hTI, ⟨a, c, hTO⟩, _, _, ex⟩ := ok
    rcases List.mem_cons.mp hb with rfl | hb
    · exact ⟨_, hz⟩
    rcases List.mem_cons.mp hb with rfl | hb
    · exact ⟨_, hTI⟩
    rcases List.mem_cons.mp hb with rfl | hb
    · exact ⟨_, hTO⟩
    exact ex b hb
  sub := fun b hb => by
    have e : b = z ∨ b = TO ∨ b = i1 ∨ b = i2 := by simpa using hb
    rcases e with rfl | rfl | rfl | rfl
    · simp
    · simp
    · have := S.mem1; simp [this]
    · have := S.mem2; simp [this]
  noKeys := fun A s Q E hA ok h => getAttrOr_miss_zip ok.1 rfl rfl rfl zip_no_keys (by decide +kernel) hA h
  iter := fun A s d Q E hA ok hd hdf h => by
    obtain ⟨hz, hTI, ⟨a, b, hTO⟩, h1, h2, _⟩ := ok
    have dz : d ≠ z := fun e => hdf (by simp [e])
    have dTI : d ≠ TI := fun e => hdf (by simp [e])
    have dTO : d ≠ TO := fun e => hdf (by simp [e])
    have df1 : ∀ b ∈ fp1, b ≠ d := fun b hb e => hdf (by subst e; simp [hb])
    have df2 : ∀ b ∈ fp2, b ≠ d := fun b hb e => hdf (by subst e; simp [hb])
    have dI1 := (df1 _ S.mem1).symm
    have dI2 := (df2 _ S.mem2).symm
    refine wpAny_pyIter_zip hz (h z [z, TO, i1, i2] (fun i h => IsTupOf2 h TI (.ref i1) (.ref i2) ∧ St1 i h ∧ St2 i h ∧
      ((IsZip h z TI TO .none ∧ ∃ a b, IsTupOf2 h TO a b) ∨ ∃ T f oT, IsZipHeld h z TI TO T f ∧ h.get? T = some oT ∧ T ≠ z ∧ T ≠ i1 ∧ T ≠ i2 ∧ T ≠ d)) s.heap s.toks ?_
      ⟨hTI, h1, h2, .inl ⟨hz, a, b, hTO⟩⟩ (fun _ _ e => e) fun b hb => .inl hb)
    exact {
      off := fun hm => by
        have e : d = z ∨ d = TO ∨ d = i1 ∨ d = i2 := by simpa using hm
        rcases e with e | e | e | e
        · exact dz e
        · exact dTO e
        · exact dI1 e
        · exact dI2 e
      frame := fun i h₁ h₂ st hk => by
        obtain ⟨hTI, h1, h2, hz⟩ := st
        refine ⟨hk _ _ (Ne.symm dTI) hTI, (D1 A hA).frame _ _ _ h1 fun b hb o e => hk b o (df1 b hb) e, (D2 A hA).frame _ _ _ h2 fun b hb o e => hk b o (df2 b hb) e, ?_⟩
        rcases hz with ⟨hz, a, b, hTO⟩ | ⟨T, f, oT, hz, hT, r1, r2, r3, r4⟩
        · exact .inl ⟨hk _ _ (Ne.symm dz) hz, a, b, hk _ _ (Ne.symm dTO) hTO⟩
        · exact .inr ⟨T, f, oT, hk _ _ (Ne.symm dz) hz, hk _ _ r4 hT, r1, r2, r3, r4⟩
      item := fun i s₁ Q₁ E₁ hi st hds hQ => by
        obtain ⟨hTI, h1, h2, hz⟩ := st
        have lt : ∀ {c o}, s₁.heap.get? c = some o → s₁.heap.objs.size ≠ c := fun e => Nat.ne_of_gt (Heap.lt_size e)
        have n1' : s₁.heap.objs.size ≠ i1 := let ⟨_, e⟩ := (D1 A hA).live _ _ h1; lt e
        have n2' : s₁.heap.objs.size ≠ i2 := let ⟨_, e⟩ := (D2 A hA).live _ _ h2; lt e
        rcases hz with ⟨hz, a, b, hTO⟩ | ⟨T, f, oT, hz, hT, r1, r2, r3, r4⟩
        · refine wpAny_pyNext_zipD2_item S (D1 A.in1 hA) (D2 A.in1 hA) hz hTI hTO h1 h2 hi hi fun x1 x2 h' tk p1 p2 a1 a2 a3 a4 a5 a6 hk => ?_
          exact hQ s₁.heap.objs.size _ _ h' tk ⟨p1, p2⟩ (.inl ⟨_, a5, rfl, _, rfl⟩)
            ⟨hk _ _ S.TIz S.TITO S.TIi1 S.TIi2 hTI, a3, a4, .inr ⟨s₁.heap.objs.size, false, _, a1, a5, lt hz, n1', n2', Nat.ne_of_gt hds⟩⟩
            fun c o hc e => hk c o (fun x => hc (by simp [x])) (fun x => hc (by simp [x])) (fun x => hc (by simp [x])) (fun x => hc (by simp [x])) e
        · refine pyNext_zipD2_item_held S (D1 A.in1 hA) (D2 A.in1 hA) hz hT hTI h1 h2 hi hi fun x1 x2 h' tk p1 p2 a1 a3 a4 a5 a6 hk => ?_
          exact hQ s₁.heap.objs.size _ _ h' tk ⟨p1, p2⟩ (.inl ⟨_, a5, rfl, _, rfl⟩)
            ⟨hk _ _ S.TIz S.TIi1 S.TIi2 hTI, a3, a4, .inr ⟨T, true, oT, a1, hk _ _ r1 r2 r3 hT, r1, r2, r3, r4⟩⟩
            fun c o hc e => hk c o (fun x => hc (by simp [x])) (fun x => hc (by simp [x])) (fun x => hc (by simp [x])) e
      done := fun s₁ Q₁ E₁ st hQ => by
        obtain ⟨hTI, h1, h2, hz⟩ := st
        rcases hz with ⟨hz, a, b, hTO⟩ | ⟨T, f, oT, hz, hT, r1, r2, r3, r4⟩
        · exact wpAny_pyNext_zipD2_end S (D1 A.in1 hA) (D2 A.in1 hA) hz hTI hTO h1 h2 (Nat.le_refl _) (Nat.le_refl _) (.inl rfl) fun h' tk hk => hQ h' tk
            fun c o hc e => hk c o (fun x => hc (by simp [x])) (fun x => hc (by simp [x])) (fun x => hc (by simp [x])) (fun x => hc (by simp [x])) e
        · exact pyNext_zipD2_end_held S (D1 A.in1 hA) (D2 A.in1 hA) hz hT hTI h1 fun h' hk => hQ h' s₁.toks
            fun c o hc e => hk c o (fun x => hc (by simp [x])) (fun x => hc (by simp [x])) (fun x => hc (by simp [x])) e }
end
theorem zip_map_get {α β γ : Type} (f : α → β → γ) : ∀ (l : List α) (m : List β) (i : Nat), ((l.zip m).map fun p => f p.1 p.2)[i]? = (l[i]?.bind fun a => m[i]?.map fun b => f a b)
  | [], _, i => by simp
  | a :: l, [], i => by cases h : (a :: l)[i]? <;> simp
  | a :: l, b :: m, 0 => rfl
  | a :: l, b :: m, i + 1 => by simpa using zip_map_get f l m i
theorem paired_zip {l : List Nat} : ∀ {ys : List V} {its : List Value}, Vals ys its → KV ((l.zip ys).map fun p => (tk [p.1], p.2)) ((l.zip its).map fun p => (tk [p.1], p.2)) := by
  induction l with
  | nil => intro ys its _; exact .nil
  | cons c l ih =>
    intro ys its r
    cases r with
    | nil => exact .nil
    | cons h t => exact .cons ⟨rfl, h⟩ (ih t)
def tDictZip (K : PySem.W.Frag) (ta : TA) : TE := fun σ H Q => ta σ H fun vs H1 => ∃ (l : List Nat) (b : Addr) (ys : List V), vs = [.str (S l), .ref b] ∧ SqT K H1 b ys ∧ ys.length = l.length ∧ l.length ≤ 1000 ∧
  ∀ p, H1 p = none → Q (.ref p) (upd H1 p (.dK (mergeK [] ((l.zip ys).map fun p => (tk [p.1], p.2)))))
theorem pe_dictZip {X : Cx} {e e2 : Expr} {ta : TA} {p p2 pos pos2 : Pos} (hc : X.calm = true) (hgd : Gl X "dict") (hmd : X.mg "dict" = none) (hg : Gl X "zip") (hm : X.mg "zip" = none) (ha : PA X [e, e2] ta)
    (hs : starEach [e, e2] X.env = (false, eval e X.env) :: starEach [e2] X.env := by rfl) (hpl : (backTo pos2 (starEach [e2] X.env)).any (·.1) = false := by rfl)
    (hs' : starEach [.Call (.Name "zip" p2) [e, e2] [] pos2] X.env = (false, eval (.Call (.Name "zip" p2) [e, e2] [] pos2) X.env) :: starEach [] X.env := by rfl) (hpl' : (backTo pos (starEach [] X.env)).any (·.1) = false := by rfl) :
    PE X (.Call (.Name "dict" p) [.Call (.Name "zip" p2) [e, e2] [] pos2] [] pos) (tDictZip X.K ta) := by
  refine ⟨fun pins s σ H Q I h => ?_⟩
  refine Call_ (ld_blt I hgd hmd PyProof.Rows.boot_dict (PyProof.Rows.callWith_type1 (Q := EP X pins σ Q) ?_ hs' hpl'))
  rw [hs']
  refine PySem.Calls.spliced_cons ?_
  refine Call_ (ld_blt I hg hm PyProof.Rows.boot_zip (PyProof.Rows.callWith_type1 (thn (ha.run pos2 pins s σ H _ I h) fun us s1 ⟨vs, H1, I1, r1, q1⟩ => ?_) hs hpl))
  obtain ⟨l, b, ys, ex, hb, hl, hz, q⟩ := q1
  subst ex
  obtain ⟨u, u', rfl, r, r'⟩ := vals2 r1
  obtain ⟨t, rfl⟩ := (show ∃ t, u = Value.str (S l) t from r)
  obtain rfl : u' = Value.ref b := r'
  obtain ⟨its, rv, ht, _⟩ := I1.tuple hb
  have hlen : its.toArray.size = (S l).cps.size := by rw [List.size_toArray, ← rv.length, hl]; simp [S]
  have hbl : b < s1.heap.objs.size := ht.lt
  refine zip_begins2 (begins_text (S l) t) (begins_tuple b its.toArray) trivial ht fun h' hz' hTI hTO h1 h2 hsz hk => ?_
  refine PySem.Calls.spliced_nil ?_
  have I2 : Inv X pins σ H1 { s1 with heap := h' } := I1.kept (t' := s1.toks) hk
  have f2 : ∀ a ∈ [b], a < s1.heap.objs.size := fun a h => by rw [List.mem_singleton.mp h]; exact hbl
  have S2 := PySem.zip_sep2 (N := s1.heap.objs.size) (fp1 := []) (fp2 := [b]) (fun _ h => nomatch h) f2
  have P := pairArg_zipD2 (prog := X.prog) (w := X.w) S2 (fun A hh => Draws.text hh s1.heap.objs.size (S l) t)
    (fun A hh => hlen ▸ Draws.tuple hh (s1.heap.objs.size + 1) b (Nat.ne_of_lt (Nat.lt_succ_of_lt hbl)) its.toArray)
  have ht2 : h'.IsTuple b its.toArray := (show s1.heap.IsTuple b its.toArray from ht).at fun o e => hk _ _ e
  have hn : H1 h'.objs.size = none := I2.hok.fresh (Nat.le_refl _)
  have hl2 : its.length = l.length := by rw [← rv.length, hl]
  refine PySem.call_dict_pairs (knd := mixKind X.prog X.w) (kvs := (l.zip its).map fun p => (tk [p.1], p.2)) P (I1.ok.hd hc) ?_ ⟨?_, ?_⟩ ?_ fun h3 tk3 hd3 hk3 => ?_
  · refine ⟨hz', hTI, ⟨_, _, hTO⟩, ⟨_, h1, rfl, rfl⟩, ⟨⟨_, h2, rfl, rfl⟩, ht2⟩, fun a ha => ?_⟩
    have e : a = s1.heap.objs.size ∨ a = s1.heap.objs.size + 1 ∨ a = b := by simpa using ha
    rcases e with rfl | rfl | rfl
    · exact ⟨_, h1⟩
    · exact ⟨_, h2⟩
    · obtain ⟨o, e, _⟩ := ht2; exact ⟨o, e⟩
  · rw [List.length_map, List.length_zip, hl2, Nat.min_self]; simp [S]
  · rintro i key v ⟨⟨c, u, hc', rfl⟩, hv⟩
    have hc2 : l[i]? = some c := by simpa [S] using hc'
    have hv2 : its[i]? = some v := by simpa using hv
    refine ⟨tk [c], ?_, kV_is (P := X.prog) (w := X.w) (k := tk [c]) ⟨u, rfl⟩⟩
    rw [zip_map_get (fun a b => (tk [a], b)), hc2, hv2]; rfl
  · simp [S]; exact Nat.le_trans hz (by decide)
  · have kvr : KV ((l.zip ys).map fun p => (tk [p.1], p.2)) ((l.zip its).map fun p => (tk [p.1], p.2)) := paired_zip rv
    have hm' : (h'.objs.size == sysModules) = false := beq_eq_false_iff_ne.mpr (Nat.ne_of_gt I2.big)
    have hlen2 : (mergeK [] ((l.zip ys).map fun p => (tk [p.1], p.2))).length ≤ sizeLine := by
      refine Nat.le_trans (length_mergeK _ []) ?_
      rw [List.length_nil, Nat.zero_add, List.length_map, List.length_zip, hl, Nat.min_self]
      exact Nat.le_trans hz (by decide)
    have keep3 : ∀ c o, s1.heap.get? c = some o → h3.get? c = some o := fun c o e => hk3 c o (fun hm => by
      have hlt : c < s1.heap.objs.size := Heap.lt_size e
      have e' : c = s1.heap.objs.size + 4 ∨ c = s1.heap.objs.size + 3 ∨ c = s1.heap.objs.size ∨ c = s1.heap.objs.size + 1 := by simpa using hm
      have hle : s1.heap.objs.size ≤ c := by
        rcases e' with z | z | z | z
        · rw [z]; exact Nat.le_add_right _ _
        · rw [z]; exact Nat.le_add_right _ _
        · rw [z]; exact Nat.le_refl _
        · rw [z]; exact Nat.le_add_right _ _
      exact Nat.lt_irrefl _ (Nat.lt_of_lt_of_le hlt hle)) (hk _ _ e)
    have hsz5 : s1.heap.objs.size ≤ h'.objs.size := by rw [hsz]; omega
    exact ⟨.ref h'.objs.size, upd H1 h'.objs.size (.dK (mergeK [] ((l.zip ys).map fun p => (tk [p.1], p.2)))), I1.laid (t' := tk3) keep3 hsz5 (show ObjOk X.prog X.w _ _ _ (.dK _) from ⟨hlen2, hm', merged [] _, KV.merge kvr .nil, hd3⟩), rfl, q _ hn⟩
end LX
set_option maxHeartbeats 2000000
namespace LX
open PySem PySem.Spec PyProof.Rows L2 C8 SX
theorem meets_enum1 {v : Value} {o : Obj} {H : Heap → Prop} (B : Begins v o H) :
    Meets (Builtin.«enumerate.__new__» ⟨[.type "enumerate", v], []⟩) (fun _ R s => H s.heap ∧
      R (.ok (.ret (.ref (s.heap.push o).objs.size))) { s with heap := (s.heap.push o).push { cls := .type "enumerate", data := .fields #[.none, .bool false, .ref s.heap.objs.size, rawInt 0, .none, .none] } }) :=
  .of_wp fun prog w A R s h => by
    obtain ⟨hp, g, d, tk, os⟩ := s; obtain ⟨h1, h⟩ := h
    have hsub := sub_enumerate
    have q1 : ∀ {A' : Around} {E : Value → Shared → Prop} {Q : Value → Shared → Prop}, Q (.ref hp.objs.size) ⟨hp.push o, g, d, tk, os⟩ → wpAny (model prog w) A' (pyIter v) Q E ⟨hp, g, d, tk, os⟩ :=
      fun q => B.iter prog w _ _ ⟨hp, g, d, tk, os⟩ _ h1 q
    wp_walk using q1
    refine wpAny_stack_any fun st => wpAny_pure ?_
    split
    · rename_i c _ _ _ _ _
      cases (c == Value.type "enumerate")
      · wp_walk using q1
        exact ⟨_, rfl, h⟩
      · wp_walk using q1
        exact ⟨_, rfl, h⟩
    · wp_walk using q1
      exact ⟨_, rfl, h⟩
theorem enum1_begins {prog : Program} {w : World} {A : Around} {E : Value → Shared → Prop} {s : Shared} {v : Value} {o : Obj} {H : Heap → Prop} {Q : Value → Shared → Prop} (B : Begins v o H) (h1 : H s.heap)
    (h : ∀ h', IsEnum h' (s.heap.objs.size + 1) s.heap.objs.size 0 .none → h'.get? s.heap.objs.size = some o → h'.objs.size = s.heap.objs.size + 2 →
      (∀ b o, s.heap.get? b = some o → h'.get? b = some o) → Q (.ref (s.heap.objs.size + 1)) { s with heap := h' }) :
    wpAny (model prog w) A (call (.type "enumerate") [v]) Q E s := by
  refine callType_new F.called_enumerate (by decide) (F.typeCall_enumerate_1 _) (F.newCall_enumerate_1 _) (fun obj => F.args_object_init_2 obj _) F.entry_enumerate_new
    (meets_enum1 B) ⟨h1, ?_⟩
  have hz : (s.heap.push o).objs.size = s.heap.objs.size + 1 := Heap.size_push ..
  show _ ∧ _
  rw [hz]
  have he : IsEnum ((s.heap.push o).push { cls := .type "enumerate", data := .fields #[.none, .bool false, .ref s.heap.objs.size, rawInt 0, .none, .none] }) (s.heap.objs.size + 1) s.heap.objs.size 0 .none := by
    have := Heap.get?_push_size (s.heap.push o) (o := { cls := .type "enumerate", data := .fields #[.none, .bool false, .ref s.heap.objs.size, rawInt 0, .none, .none] }) rfl
    rw [hz] at this; exact this
  refine ⟨⟨_, he, rfl⟩, h _ he (Heap.get?_push_of_some _ (Heap.get?_push_size _ B.free)) (by rw [Heap.size_push, hz]) fun b o x => Heap.get?_push_of_some _ (Heap.get?_push_of_some _ x)⟩
def IteX (K : PySem.W.Frag) (S : Sr) : It :=
  ⟨fun i H => S.has K i H, fun i H v H' => ∃ T x, v = .ref T ∧ H T = none ∧ H' = upd H T (.tup [.int (i : Nat), x]) ∧ S.val K i H x, fun i H => S.upto K i H ∧ S.ends K i H⟩
theorem turn_enumX {P : Program} {w : World} {K : PySem.W.Frag} {elts : List Expr} {kk : Nat} {tpos : Pos} {e it : Addr} (S : Sr) (n1 : ∀ a ∈ S.fp, a ≠ it) (ne : e ≠ it) (nf : e ∉ S.fp) :
    Turn P w K (.Tuple elts kk tpos) (IteX K S) [e, it] e (fun i h => (∃ old, IsEnum h e it ((i : Nat) : Int) old) ∧ S.tn it i h) where
  mem := by simp
  obj := fun i h st b hb => by
    obtain ⟨⟨old, he⟩, h1⟩ := st
    have e' : b = e ∨ b = it := by simpa using hb
    rcases e' with z | z
    · rw [z]; exact ⟨_, he, fun v q => nomatch q⟩
    · rw [z]; exact Sr.tn_obj h1
  keep := fun i h h' st k => let ⟨⟨old, he⟩, h1⟩ := st; ⟨⟨old, k e (by simp) _ he⟩, Sr.tn_keep h1 fun o q => k it (by simp) o q⟩
  item := by
    intro X hP hw hK hc i pins s σ H E I hf st hg
    subst hP hw hK
    obtain ⟨⟨old, he⟩, h1⟩ := st
    obtain ⟨m1, ⟨P1, St1, D1, st1, v1, t1⟩, _, lt1, _⟩ := S.draws I n1 h1 (Sr.has_upto hg)
    have hel : e < s.heap.objs.size := Heap.lt_size he
    have hil : it < s.heap.objs.size := by obtain ⟨_, q, _⟩ := Sr.tn_obj h1; exact Heap.lt_size q
    refine wpAny_pyNext_enum_itemD (D1 _ (I.ok.hd hc)) he st1 (lt1 hg) ne (by simp [ne, nf]) fun u h' tk p1 ho st1' hT hsz hk => ?_
    obtain ⟨x, hx, rx⟩ := v1 u p1
    refine ⟨_, rfl, wpAny_letOwnedTupleGo_enum (s := { s with heap := h', toks := tk + 1 }) ho fun h'' he' sb => ?_⟩
    have hT2 : h''.get? s.heap.objs.size = some { cls := .type "tuple", data := .seq #[.int i tk, u] } := (sb.2 _ (Nat.ne_of_gt hel)).trans hT
    have new : ObjOk X.prog X.w (upd H s.heap.objs.size (.tup [.int (i : Nat), x])) h'' s.heap.objs.size (.tup [.int (i : Nat), x]) :=
      ⟨by show 2 ≤ sizeLine; decide, [.int i tk, u], .cons ⟨_, rfl⟩ (.cons rx .nil), ⟨_, hT2, rfl, _, rfl⟩⟩
    have I1 : Inv X pins σ (upd H s.heap.objs.size (.tup [.int (i : Nat), x])) { s with heap := h'', toks := tk + 1 } :=
      I.turnedNew (ch := [e, it]) (fun b ob hb q => (sb.2 b (fun z => hb (by simp [z]))).trans (hk b ob (fun z => hb (by simp [z])) (fun z => hb (by simp [z])) q)) hf (Nat.le_refl _) new
    refine ⟨.ref s.heap.objs.size, _, I1, rfl, ⟨_, x, rfl, I.hok.fresh (Nat.le_refl _), rfl, hx⟩, ⟨⟨u, ?_⟩, Sr.tn_keep (t1 _ _ st1') fun o q => (sb.2 it (Ne.symm ne)).trans q⟩, fun b hb => ?_⟩
    · have e1 : ((i + 1 : Nat) : Int) = (i : Int) + 1 := by omega
      rw [e1]; exact he'
    · have hb' : b < s.heap.objs.size := by
        have e' : b = e ∨ b = it := by simpa using hb
        rcases e' with z | z
        · rw [z]; exact hel
        · rw [z]; exact hil
      rw [upd_ne (Nat.ne_of_lt hb')]
      exact (hf b hb).1
  done := by
    intro X hP hw hK hc i pins s σ H E I hf st hg
    subst hP hw hK
    obtain ⟨⟨old, he⟩, h1⟩ := st
    obtain ⟨g1, ge⟩ := hg
    obtain ⟨m1, ⟨P1, St1, D1, st1, v1, t1⟩, _, _, eq1⟩ := S.draws I n1 h1 g1
    obtain ⟨f0, f1, f2, f3, f4, f5⟩ := hf it (by simp)
    have e1 := eq1 ge
    subst e1
    exact wpAny_pyNext_enum_endD (D1 _ (I.ok.hd hc)) he st1 fun h' eb => ⟨rfl, I.turned (t' := s.toks) (fun b o hb q => eb b o hb q) f0 f1 f3 f4 f5⟩
  self := fun A i s Q E st h => let ⟨⟨_, he⟩, _⟩ := st; wpAny_pyIter_enum he h
def iEnumX (K : PySem.W.Frag) (ta : TA) : TI := fun σ H R => ta σ H fun vs H1 => ∃ (x : V) (S : Sr), vs = [x] ∧ S.of x ∧ S.there K H1 ∧ R (IteX K S) H1
theorem pi_enumX {X : Cx} {e : Expr} {ta : TA} {p pos tpos : Pos} {elts : List Expr} {kk : Nat} (hg : Gl X "enumerate") (hm : X.mg "enumerate" = none) (ha : PA X [e] ta) (hs : starEach [e] X.env = [(false, eval e X.env)] := by rfl) :
    PI X (.Tuple elts kk tpos) (.Call (.Name "enumerate" p) [e] [] pos) (iEnumX X.K ta) := by
  refine ⟨fun pins s σ H R I h => ?_⟩
  refine Call_ (ld_blt I hg hm PyProof.Rows.boot_enumerate (PyProof.Rows.callWith_type1 (thn (ha.run pos pins s σ H _ I h) fun us s1 ⟨vs, H1, I1, r1, q1⟩ => ?_) hs rfl))
  obtain ⟨x, S, ex, e1, th1, q⟩ := q1
  subst ex
  obtain ⟨u, rfl, r⟩ := vals1 r1
  obtain ⟨o1, HH1, B1, b1, f1, t1⟩ := Sr.begins I1 r e1 th1
  refine enum1_begins B1 b1 fun h' he hit hsz hk => wpAny_pyIter_enum he ?_
  have I2 : Inv X pins σ H1 { s1 with heap := h' } := I1.kept (t' := s1.toks) hk
  refine ⟨s1.heap.objs.size + 1, [s1.heap.objs.size + 1, s1.heap.objs.size], _, _, H1, rfl, I2, turn_enumX S (fun a ha => Nat.ne_of_lt (f1 a ha)) (Nat.succ_ne_self _) (fun hm => Nat.not_lt.mpr (Nat.le_add_right _ _) (f1 _ hm)), ⟨⟨.none, he⟩, t1 _ _ hit⟩, fun b hb => ?_, q⟩
  have e' : b = s1.heap.objs.size + 1 ∨ b = s1.heap.objs.size := by simpa using hb
  have hle : s1.heap.objs.size ≤ b := by
    rcases e' with z | z
    · rw [z]; exact Nat.le_add_right _ _
    · rw [z]; exact Nat.le_refl _
  exact I1.fpOk hle (I1.hok.fresh hle)
theorem walk_enumX {K : PySem.W.Frag} {S : Sr} {xs : List V} : Walk (IteX K S) xs.length (fun H => S.is K H xs) (YPair (fun i => some (.int (i : Nat))) (fun i => xs[i]?)) := by
  refine ⟨fun i H hi q => Sr.is_has hi q, fun H q => ⟨Sr.is_upto (Nat.le_refl _) q, Sr.is_ends rfl q⟩, fun i H v H' _ q y => ?_⟩
  obtain ⟨T, x, h1, h2, h3, h4⟩ := y
  exact ⟨T, .int (i : Nat), x, h1, h2, h3, rfl, Sr.is_val q h4⟩
theorem dc_keep {Rel : Hp → Hp → Prop} {J : It} {n : Nat} {G : Hp → Prop} {Y : Nat → Hp → V → Hp → Prop} {H1 : Hp} (kp : Keep Rel H1) (w : Walk J n G Y) {g : TG} {ka te : TE} {vs : List Nat} {σ : L2.St} {D : Addr} {Qd : Hp → Prop} (hD : H1 D = none) (hn : n < sizeLine)
    (key : Nat → Key) (Good : Nat → V → Hp → Prop) (hG : ∀ H, Rel H1 H → G H) (inj : ∀ i j, i < n → j < i → key j ≠ key i)
    (st : ∀ i y H H', Rel H1 H → Rel H H' → Good i y H → Good i y H') (pt : ∀ i y H acc o, Rel H1 H → H D = some (.dK acc) → Good i y H → Good i y (upd H D o))
    (hs : ∀ i x H H' acc (R : V → V → Hp → Prop), i < n → Rel H1 H → H D = some (.dK acc) → Y i H x H' → (∀ y H4, Rel H H4 → Good i y H4 → R (kV (key i)) y H4) → g x (wipe σ vs) H' fun σ2 H2 => wipe σ2 vs = wipe σ vs ∧ ka σ2 H2 fun k H3 => te σ2 H3 fun z H4 => R k z H4)
    (hd : ∀ ys H, ys.length = n → (∀ (j : Nat) y, ys[j]? = some y → Good j y H) → Rel H1 H → H D = some (.dK ((List.range n).zip ys |>.map fun p => (key p.1, p.2))) → Qd H) :
    ∃ W : Nat → Nat → Hp → Prop, (∃ m, W 0 m (upd H1 D (.dK []))) ∧ ∀ i m H, W i m H →
      (J.stop i H ∧ Qd H) ∨ (J.go i H ∧ ∃ Nx : Hp → Prop, (∀ H', Nx H' → ∃ m', m' < m ∧ W (i + 1) m' H') ∧ ∀ x H', J.yld i H x H' → g x (wipe σ vs) H' fun σ2 H2 => wipe σ2 vs = wipe σ vs ∧ tYes σ2 H2 fun b H3 =>
        if b = true then ka σ2 H3 fun y H4 => te σ2 H4 fun z H5 => ∃ kvs k, y = kV k ∧ H5 D = some (.dK kvs) ∧ kvs.length < sizeLine ∧ Nx (upd H5 D (.dK (putK kvs k z))) else Nx H3) := by
  refine ⟨fun i m H => m = n - i ∧ i ≤ n ∧ ∃ ys : List V, ys.length = i ∧ H D = some (.dK ((List.range i).zip ys |>.map fun p => (key p.1, p.2))) ∧ Rel H1 H ∧ ∀ (j : Nat) y, ys[j]? = some y → Good j y H, ⟨n, by omega, Nat.zero_le _, [], rfl, upd_same, kp.put _ _ _ kp.refl hD, fun j y e => by simp at e⟩, ?_⟩
  rintro i m H ⟨rfl, hi, ys, hl, hDa, r, hg⟩
  rcases Nat.lt_or_ge i n with h | h
  · refine .inr ⟨w.goes i H h (hG H r), fun H' => ∃ ys : List V, ys.length = i + 1 ∧ H' D = some (.dK ((List.range (i + 1)).zip ys |>.map fun p => (key p.1, p.2))) ∧ Rel H1 H' ∧ ∀ (j : Nat) y, ys[j]? = some y → Good j y H', fun H' h' => ⟨n - (i + 1), by omega, rfl, h, h'⟩, fun x H' hy => ?_⟩
    have key2 : ∀ (z : V) H5, Rel H H5 → Good i z H5 → ∃ kvs k, kV (key i) = kV k ∧ H5 D = some (.dK kvs) ∧ kvs.length < sizeLine ∧ ∃ ys : List V, ys.length = i + 1 ∧ (upd H5 D (.dK (putK kvs k z))) D = some (.dK ((List.range (i + 1)).zip ys |>.map fun p => (key p.1, p.2))) ∧ Rel H1 (upd H5 D (.dK (putK kvs k z))) ∧ ∀ (j : Nat) y, ys[j]? = some y → Good j y (upd H5 D (.dK (putK kvs k z))) := fun z H5 r5 gz => by
      have hD5 := kp.get _ _ _ _ r5 hD r hDa
      have r6 := kp.trans _ _ r r5
      refine ⟨_, key i, rfl, hD5, by rw [List.length_map, List.length_zip, List.length_range, hl]; omega, ys ++ [z], by simp [hl], ?_, kp.put _ _ _ r6 hD, fun j y e => ?_⟩
      · rw [upd_same]
        congr 2
        rw [putK_new _ (valV_none fun p hp => ?_), List.range_succ, List.zip_append (by rw [List.length_range, hl])]
        · simp
        · obtain ⟨q, hq, rfl⟩ := List.mem_map.mp hp
          have : q.1 < i := List.mem_range.mp (List.of_mem_zip hq).1
          exact inj i q.1 h this
      · rcases Nat.lt_or_ge j ys.length with h | h
        · rw [List.getElem?_append_left h] at e
          exact pt _ _ _ _ _ r6 hD5 (st _ _ _ _ r r5 (hg j y e))
        · rw [List.getElem?_append_right h] at e
          have hj : j - ys.length = 0 := by
            rcases Nat.lt_or_ge (j - ys.length) 1 with z | z
            · omega
            · rw [List.getElem?_eq_none (by simpa using z)] at e; cases e
          rw [hj] at e
          have : z = y := Option.some.inj e
          subst this
          have : j = i := by omega
          subst this
          exact pt _ _ _ _ _ r6 hD5 gz
    exact hs i x H H' _ (fun k z H5 => ∃ kvs k', k = kV k' ∧ H5 D = some (.dK kvs) ∧ kvs.length < sizeLine ∧ ∃ ys : List V, ys.length = i + 1 ∧ (upd H5 D (.dK (putK kvs k' z))) D = some (.dK ((List.range (i + 1)).zip ys |>.map fun p => (key p.1, p.2))) ∧ Rel H1 (upd H5 D (.dK (putK kvs k' z))) ∧ ∀ (j : Nat) y, ys[j]? = some y → Good j y (upd H5 D (.dK (putK kvs k' z)))) h r hDa (w.yields i H x H' h (hG H r) hy) fun y H4 r4 gy => key2 y H4 r4 gy
  · have : i = n := by omega
    subst this
    exact .inl ⟨w.stops H (hG H r), hd ys H hl hg r hDa⟩
end LX
set_option maxHeartbeats 4000000
namespace LX
open PySem PySem.Spec PyProof.Rows L2 C8 SX
theorem inK {X : Cx} (K : PySem.W.Frag) (h : X.K = K := by rfl) : OpR X (compareOp .In) (rIn K false) := by subst h; exact op_in_seq
theorem notInK {X : Cx} (K : PySem.W.Frag) (h : X.K = K := by rfl) : OpR X (compareOp .NotIn) (rIn K true) := by subst h; exact op_notIn_seq
section
variable {prog : Program} {w : World} {A : Around} {R : Result → Shared → Prop} {I S : Addr} {fp wr : List Addr} {G : Array GenState → Array GenState → Prop} {n : Nat} {P : Nat → Value → Prop} {St : Nat → Shared → Prop}
abbrev setO (led : Bool) : Obj := { cls := .type "set", dict := none, data := .set #[] 0 (.fresh 0 0 led) }
abbrev Elem (prog : Program) (w : World) (xs : List Str) (i : Nat) (S : Addr) (h : Heap) : Prop := h.SetOf (PySem.strKind prog w) S (fun k => decide (k ∈ xs.take i)) i
theorem Elem.stay {xs : List Str} {i : Nat} {h h' : Heap} (e : Elem prog w xs i S h) (k : ∀ o, h.get? S = some o → h'.get? S = some o) : Elem prog w xs i S h' :=
  let ⟨o, es, ep, tb, ho, rest⟩ := e; ⟨o, es, ep, tb, k o ho, rest⟩
theorem set_loopT (W : WalksS prog w A.in1 I fp wr G n P St) (off : S ∉ fp) {xs : List Str} (hl : xs.length = n) (nd : xs.Nodup) (room : n < scanBound) (val : ∀ i v, P i v → ∃ x t, xs[i]? = some x ∧ v = .str x t) :
    ∀ (k i : Nat) (s : Shared), i + k = n → St i s → Elem prog w xs i S s.heap → (∀ s', Moved (S :: wr) G s s' → Elem prog w xs n S s'.heap → R (.ok (.ret .none)) s') →
      codeAny (model prog w) A (.builtin "set.update.loop" ⟨[.ref S, .ref I], []⟩) R s
  | 0, i, s, hk, hst, he, hR => by
    obtain rfl : i = n := hk
    refine codeAny_builtin PyProof.Rows.F.entry_set_update_loop ?_
    rw [Around.under_plainId PyProof.Rows.F.plain_set_update_loop _]
    refine wpAny_bind (W.done s _ _ hst fun s' hm => wpAny_pure (hR s' (hm.mono fun b hb => List.mem_cons_of_mem _ hb) (he.stay fun o e => hm.heap S o (fun h => off (W.sub _ h)) e)))
  | k + 1, i, s, hk, hst, he, hR => by
    refine codeAny_builtin PyProof.Rows.F.entry_set_update_loop ?_
    rw [Around.under_plainId PyProof.Rows.F.plain_set_update_loop _]
    refine wpAny_bind (W.item i s _ _ (by omega) hst fun v s' hP hst' hm => ?_)
    obtain ⟨x, t, hx, rfl⟩ := val i v hP
    have he' : Elem prog w xs i S s'.heap := he.stay fun o e => hm.heap S o (fun h => off (W.sub _ h)) e
    show wpAny _ A.in1 (holding [Value.str x t] (setAdd S (.str x t)) >>= _) _ _ s'
    refine wpAny_bind (wpAny_holding ?_)
    unfold setAdd
    refine wpAny_holding (wpAny_bind ((PySem.strKind prog w).pyHash (k := x) (strKind_is _ _ _ _) ?_))
    refine wpAny_setAddHashed_of (knd := PySem.strKind prog w) (s := { s' with toks := s'.toks + 1 }) (strKind_is _ _ _ _) rfl he' (by omega) fun h' hsb hS2 => ?_
    have hni : x ∉ xs.take i := not_in_take nd hx
    have he2 : Elem prog w xs (i + 1) S h' := SetOf_congr hS2 (fun y => by rw [take_more hx]; by_cases e : y ∈ xs.take i <;> by_cases e2 : y = x <;> simp [e, e2]) (by rw [if_neg (by simpa using hni)])
    refine wpAny_pure ⟨plainId_quiet PyProof.Rows.F.plain_set_update_loop _, set_loopT W off hl nd room val k (i + 1) _ (by omega) (W.frame _ s' _ _ hst' (Nat.le_succ _) fun b hb o e => ?_) he2 fun s2 hm2 he3 => ?_⟩
    · rw [hsb.2 b (fun h => off (h ▸ hb))]; exact e
    · refine hR s2 (Moved.trans W.gtrans ((hm.mono fun b hb => List.mem_cons_of_mem _ hb).then_heap (Nat.le_succ _) fun b o hb e => ?_) hm2) he3
      rw [hsb.2 b (fun h => hb (by rw [h]; exact List.mem_cons_self))]; exact e
end
section
variable {prog : Program} {w : World} {A : Around} {E : Value → Shared → Prop} {s : Shared}
theorem set_of_list {l : Addr} {items : Array Value} {xs : List Str} {Q : Value → Shared → Prop} (hh : A.handled = none) (hl : s.heap.IsList l items) (hi : PyProof.Rows.StrsAre items.toList xs) (nd : xs.Nodup) (room : xs.length < scanBound)
    (h : ∀ (h' : Heap) (tk : Nat), Elem prog w xs xs.length s.heap.objs.size h' → (∀ b o, s.heap.get? b = some o → h'.get? b = some o) → Q (.ref s.heap.objs.size) { s with heap := h', toks := tk }) :
    wpAny (model prog w) A (call (.type "set") [.ref l]) Q E s := by
  obtain ⟨c, tl, hmro⟩ := PySem.F.called_set.mro
  have hmade := PySem.F.called_set.made
  have hsub := PySem.F.called_set.sub
  refine wpAny_call (codeAny_of_tree ?_)
  refine wpAny_pure ⟨Code.quiet_builtin _ (by decide +kernel), codeAny_builtin PySem.F.entry_type_call ?_⟩
  rw [Around.under_plain (weight_type_call_type "set" [.ref l] []) rfl]
  have nt := PySem.F.called_set.notType
  have cc := PySem.F.called_set.canCreate
  have ct := PySem.F.typeCall_set_1 (.ref l)
  repeat (any_goals (first | assumption | wp_step))
  refine codeAny_mono (code_set_new_1 (.ref l) (E := E) (Q₁ := fun obj s1 => ∃ led : Bool, obj = .ref s.heap.objs.size ∧ s1 = { s with heap := s.heap.push { cls := .type "set", dict := none, data := .set #[] 0 (.fresh 0 0 led) } }) fun led => ⟨led, rfl, rfl⟩) fun r s1 hr => ?_
  match r, hr with
  | .ok (.ret obj), hr =>
    obtain ⟨led, rfl, rfl⟩ := hr
    have hS : (s.heap.push (setO led)).get? s.heap.objs.size = some (setO led) := Heap.get?_push_size _ rfl
    have hTy : Shared.TypeIs { s with heap := s.heap.push (setO led) } (.ref s.heap.objs.size) "set" := ⟨_, hS, rfl⟩
    have li := PySem.F.called_set.init.lookup
    have bi := PySem.F.called_set.init.bind (.ref s.heap.objs.size)
    repeat (any_goals (first | assumption | wp_step))
    refine codeAny_mono (codeAny_call_builtin (R := wants (fun r s2 => r = .none ∧ ∃ h' tk, s2 = { s with heap := h', toks := tk } ∧ Elem prog w xs xs.length s.heap.objs.size h' ∧ (∀ b o, s.heap.get? b = some o → h'.get? b = some o)) E)
      PySem.F.called_set.init.plain PySem.F.entry_set_init (check_set_init_1 hTy ?_)) fun r2 s2 hr2 => ?_
    · obtain ⟨⟨oc, od, odt, osl⟩, hol, hcl, nl, hdl⟩ := hl
      dsimp only at hcl hdl
      subst hcl hdl
      have hol' : (s.heap.push (setO led)).get? l = some { cls := .type "list", dict := od, data := .seq items nl, slots := osl } := Heap.get?_push_of_some _ hol
      have ss := PySem.F.sub_list_set
      have sf := PySem.F.sub_list_frozenset
      have ne : (Value.type "list" == Value.type "dict") = false := by decide
      have hl1 : (s.heap.push (setO led)).IsList l items := ⟨_, hol', rfl, nl, rfl⟩
      unfold Builtin.«set.__init__» noKeywords Builtin.Frozenset.updateFrom
      generalize hPI : pyIter = PI
      wp_walk
      subst hPI
      refine wpAny_pyIter_list hl1 ?_
      refine wpAny_bind (wpAny_runValue ?_)
      have hlS : l < s.heap.objs.size := Heap.lt_size hol
      have hz : (s.heap.push (setO led)).objs.size = s.heap.objs.size + 1 := Heap.size_push ..
      have neI : l ≠ (s.heap.push (setO led)).objs.size := by rw [hz]; exact Nat.ne_of_lt (Nat.lt_succ_of_lt hlS)
      have off : s.heap.objs.size ∉ [(s.heap.push (setO led)).objs.size, l] := by
        rw [hz]; simp only [List.mem_cons, List.not_mem_nil, or_false, not_or]
        exact ⟨Nat.ne_of_lt (Nat.lt_succ_self _), Nat.ne_of_gt hlS⟩
      have hsz : xs.length = items.size := by rw [← StrsAre.len_eq hi, Array.length_toList]
      refine set_loopT (xs := xs) ((Walks.list (A := A.in1.in1.in1) (by simp [hh]) _ l neI items).toS) off hsz nd (by rw [← hsz]; exact room) (fun i v hv => ?_) items.size 0 _ (Nat.zero_add _) ⟨⟨_, Heap.get?_push_size _ rfl, rfl, rfl⟩, hl1.push _⟩ ?_ fun s' hm hS' => ?_
      · obtain ⟨t, e⟩ := SS.strs_at hi i v (by rw [Array.getElem?_toList]; exact hv)
        have hlt : i < xs.length := by rw [hsz]; exact (Array.getElem?_eq_some_iff.mp hv).1
        exact ⟨xs[i], t, List.getElem?_eq_getElem hlt, by rw [e, List.getD_eq_getElem?_getD, List.getElem?_eq_getElem hlt]; rfl⟩
      · exact PyProof.Rows.SetOf_congr ((PyProof.Rows.setObjOf_fresh (knd := PySem.strKind prog w) led).setOf (Heap.get?_push_of_some _ hS) (by unfold scanBound; omega)) (fun _ => by simp) rfl
      · obtain ⟨h', g', d', tk', os'⟩ := s'
        obtain rfl : g' = s.gens := hm.gens
        obtain rfl : d' = s.drawn := hm.drawn
        obtain rfl : os' = s.os := hm.os
        refine wpAny_pure (wpAny_pure ⟨rfl, h', tk', rfl, by rw [hsz]; exact hS', fun b o e => ?_⟩)
        have hb : b < s.heap.objs.size := Heap.lt_size e
        refine hm.heap b o (fun hmem => ?_) (Heap.get?_push_of_some _ (Heap.get?_push_of_some _ e))
        have e' : b = s.heap.objs.size ∨ b = (s.heap.push (setO led)).objs.size := by simpa using hmem
        rcases e' with e' | e'
        · exact Nat.ne_of_lt hb e'
        · rw [hz] at e'; exact Nat.ne_of_lt (Nat.lt_succ_of_lt hb) e'
    · match r2, hr2 with
      | .ok (.ret r), hr2 =>
        obtain ⟨rfl, h', tk, rfl, hS', hk'⟩ := hr2
        repeat (any_goals (first | assumption | wp_step))
        exact h _ _ hS' hk'
      | .error e, hr2 => exact hr2
  | .error e, hr => exact hr
end
section
variable {prog : Program} {w : World} {A : Around} {E : Value → Shared → Prop} {s : Shared}
theorem set_of_tuple {l : Addr} {items : Array Value} {xs : List Str} {Q : Value → Shared → Prop} (hh : A.handled = none) (hl : s.heap.IsTuple l items) (hi : PyProof.Rows.StrsAre items.toList xs) (nd : xs.Nodup) (room : xs.length < scanBound)
    (h : ∀ (h' : Heap) (tk : Nat), Elem prog w xs xs.length s.heap.objs.size h' → (∀ b o, s.heap.get? b = some o → h'.get? b = some o) → Q (.ref s.heap.objs.size) { s with heap := h', toks := tk }) :
    wpAny (model prog w) A (call (.type "set") [.ref l]) Q E s := by
  obtain ⟨c, tl, hmro⟩ := PySem.F.called_set.mro
  have hmade := PySem.F.called_set.made
  have hsub := PySem.F.called_set.sub
  refine wpAny_call (codeAny_of_tree ?_)
  refine wpAny_pure ⟨Code.quiet_builtin _ (by decide +kernel), codeAny_builtin PySem.F.entry_type_call ?_⟩
  rw [Around.under_plain (weight_type_call_type "set" [.ref l] []) rfl]
  have nt := PySem.F.called_set.notType
  have cc := PySem.F.called_set.canCreate
  have ct := PySem.F.typeCall_set_1 (.ref l)
  repeat (any_goals (first | assumption | wp_step))
  refine codeAny_mono (code_set_new_1 (.ref l) (E := E) (Q₁ := fun obj s1 => ∃ led : Bool, obj = .ref s.heap.objs.size ∧ s1 = { s with heap := s.heap.push { cls := .type "set", dict := none, data := .set #[] 0 (.fresh 0 0 led) } }) fun led => ⟨led, rfl, rfl⟩) fun r s1 hr => ?_
  match r, hr with
  | .ok (.ret obj), hr =>
    obtain ⟨led, rfl, rfl⟩ := hr
    have hS : (s.heap.push (setO led)).get? s.heap.objs.size = some (setO led) := Heap.get?_push_size _ rfl
    have hTy : Shared.TypeIs { s with heap := s.heap.push (setO led) } (.ref s.heap.objs.size) "set" := ⟨_, hS, rfl⟩
    have li := PySem.F.called_set.init.lookup
    have bi := PySem.F.called_set.init.bind (.ref s.heap.objs.size)
    repeat (any_goals (first | assumption | wp_step))
    refine codeAny_mono (codeAny_call_builtin (R := wants (fun r s2 => r = .none ∧ ∃ h' tk, s2 = { s with heap := h', toks := tk } ∧ Elem prog w xs xs.length s.heap.objs.size h' ∧ (∀ b o, s.heap.get? b = some o → h'.get? b = some o)) E)
      PySem.F.called_set.init.plain PySem.F.entry_set_init (check_set_init_1 hTy ?_)) fun r2 s2 hr2 => ?_
    · obtain ⟨⟨oc, od, odt, osl⟩, hol, hcl, nl, hdl⟩ := hl
      dsimp only at hcl hdl
      subst hcl hdl
      have hol' : (s.heap.push (setO led)).get? l = some { cls := .type "tuple", dict := od, data := .seq items nl, slots := osl } := Heap.get?_push_of_some _ hol
      have ss := PySem.F.sub_tuple_set
      have sf := PySem.F.sub_tuple_frozenset
      have ne : (Value.type "tuple" == Value.type "dict") = false := by decide
      have hl1 : (s.heap.push (setO led)).IsTuple l items := ⟨_, hol', rfl, nl, rfl⟩
      unfold Builtin.«set.__init__» noKeywords Builtin.Frozenset.updateFrom
      generalize hPI : pyIter = PI
      wp_walk
      subst hPI
      refine wpAny_pyIter_tuple hl1 ?_
      refine wpAny_bind (wpAny_runValue ?_)
      have hlS : l < s.heap.objs.size := Heap.lt_size hol
      have hz : (s.heap.push (setO led)).objs.size = s.heap.objs.size + 1 := Heap.size_push ..
      have neI : l ≠ (s.heap.push (setO led)).objs.size := by rw [hz]; exact Nat.ne_of_lt (Nat.lt_succ_of_lt hlS)
      have off : s.heap.objs.size ∉ [(s.heap.push (setO led)).objs.size, l] := by
        rw [hz]; simp only [List.mem_cons, List.not_mem_nil, or_false, not_or]
        exact ⟨Nat.ne_of_lt (Nat.lt_succ_self _), Nat.ne_of_gt hlS⟩
      have hsz : xs.length = items.size := by rw [← StrsAre.len_eq hi, Array.length_toList]
      refine set_loopT (xs := xs) ((Walks.tuple (A := A.in1.in1.in1) (by simp [hh]) _ l neI items).toS) off hsz nd (by rw [← hsz]; exact room) (fun i v hv => ?_) items.size 0 _ (Nat.zero_add _) ⟨⟨_, Heap.get?_push_size _ rfl, rfl, rfl⟩, hl1.push _⟩ ?_ fun s' hm hS' => ?_
      · obtain ⟨t, e⟩ := SS.strs_at hi i v (by rw [Array.getElem?_toList]; exact hv)
        have hlt : i < xs.length := by rw [hsz]; exact (Array.getElem?_eq_some_iff.mp hv).1
        exact ⟨xs[i], t, List.getElem?_eq_getElem hlt, by rw [e, List.getD_eq_getElem?_getD, List.getElem?_eq_getElem hlt]; rfl⟩
      · exact PyProof.Rows.SetOf_congr ((PyProof.Rows.setObjOf_fresh (knd := PySem.strKind prog w) led).setOf (Heap.get?_push_of_some _ hS) (by unfold scanBound; omega)) (fun _ => by simp) rfl
      · obtain ⟨h', g', d', tk', os'⟩ := s'
        obtain rfl : g' = s.gens := hm.gens
        obtain rfl : d' = s.drawn := hm.drawn
        obtain rfl : os' = s.os := hm.os
        refine wpAny_pure (wpAny_pure ⟨rfl, h', tk', rfl, by rw [hsz]; exact hS', fun b o e => ?_⟩)
        have hb : b < s.heap.objs.size := Heap.lt_size e
        refine hm.heap b o (fun hmem => ?_) (Heap.get?_push_of_some _ (Heap.get?_push_of_some _ e))
        have e' : b = s.heap.objs.size ∨ b = (s.heap.push (setO led)).objs.size := by simpa using hmem
        rcases e' with e' | e'
        · exact Nat.ne_of_lt hb e'
        · rw [hz] at e'; exact Nat.ne_of_lt (Nat.lt_succ_of_lt hb) e'
    · match r2, hr2 with
      | .ok (.ret r), hr2 =>
        obtain ⟨rfl, h', tk, rfl, hS', hk'⟩ := hr2
        repeat (any_goals (first | assumption | wp_step))
        exact h _ _ hS' hk'
      | .error e, hr2 => exact hr2
  | .error e, hr => exact hr
end
section
variable {X : Cx}
def tLenSetT (K : PySem.W.Frag) (ta : TE) : TE := fun σ H Q => ta σ H fun x H1 => ∃ (l : Addr) (xs : List (List Nat)), x = V.ref l ∧ (SqL K H1 l (txs xs) ∨ SqT K H1 l (txs xs)) ∧ xs.length < 60 ∧ xs.Nodup ∧ Q (.int xs.length) H1
theorem nodup_S {xs : List (List Nat)} (h : xs.Nodup) : (xs.map S).Nodup := List.pairwise_map.mpr (h.imp fun n e => n (by have : (S _).cps.toList = (S _).cps.toList := congrArg (fun z : Str => z.cps.toList) e; simpa [S] using this))
theorem pe_lenSetT {a : Expr} {ta : TE} {p p2 q pos : Pos} (hc : X.calm = true) (hg : Gl X "len") (hm : X.mg "len" = none) (hg2 : Gl X "set") (hm2 : X.mg "set" = none) (ha : PE X a ta)
    (na : starEach [a] X.env = (false, eval a X.env) :: starEach [] X.env := by rfl) : PE X (.Call (.Name "len" p) [.Call (.Name "set" p2) [a] [] q] [] pos) (tLenSetT X.K ta) := by
  refine ⟨fun pins s σ H Q I h => ?_⟩
  refine Call_ (ld_blt I hg hm PySem.boot_len (PyProof.Rows.callWith_builtin1 (PyProof.Rows.args_cons ?_ rfl) rfl rfl))
  refine Call_ (ld_blt I hg2 hm2 PyProof.Rows.boot_set (PyProof.Rows.callWith_type1 (PyProof.Rows.args_cons (thn (ha.run pins s σ H _ I h) fun v s1 ⟨x, H1, I1, r1, q1⟩ => PyProof.Rows.args_nil ?_) na) na rfl))
  obtain ⟨l, xs, rfl, hq, h1, hnd, q1⟩ := q1
  cases r1
  have e0 : txs xs = (xs.map S).map V.str := by unfold txs; rw [List.map_map]; rfl
  have room : (xs.map S).length < scanBound := by rw [List.length_map]; unfold scanBound; omega
  have fin : ∀ (h' : Heap) (tk : Nat), Elem X.prog X.w (xs.map S) (xs.map S).length s1.heap.objs.size h' → (∀ b o, s1.heap.get? b = some o → h'.get? b = some o) →
      wpAny (model X.prog X.w) X.A (spliced (backTo pos (starEach [] X.env))) (fun vs s₂ => wpAny (model X.prog X.w) X.A (call (.builtin "len") (Value.ref s1.heap.objs.size :: vs)) (EP X pins σ Q) X.xe s₂) X.xe { s1 with heap := h', toks := tk } := fun h' tk hS hk => by
    refine PyProof.Rows.args_nil ?_
    obtain ⟨o, es, ep, t, ho, hex, hd, _, _, _, hf, hn⟩ := hS
    have I2 : Inv X pins σ H1 { s1 with heap := h', toks := tk } := I1.kept hk
    rw [List.length_map] at hn
    exact call_len_set ho hex hd hf (by rw [hn]; omega) ⟨.int xs.length, H1, I2.tok _, ⟨_, by rw [hn]⟩, q1⟩
  rcases hq with hq | hq
  · rw [e0] at hq
    obtain ⟨its, r, pl, hz⟩ := I1.list hq
    exact set_of_list (I1.ok.hd hc) pl.isList (by simpa using strsAre_of r) (nodup_S hnd) room fun h' tk hS hk => fin h' tk hS hk
  · rw [e0] at hq
    obtain ⟨its, r, pl, hz⟩ := I1.tuple hq
    exact set_of_tuple (I1.ok.hd hc) pl (by simpa using strsAre_of r) (nodup_S hnd) room fun h' tk hS hk => fin h' tk hS hk
end
end LX
set_option maxHeartbeats 2000000
namespace LX
open PySem PySem.Spec PyProof.Rows L2 C8 SX
def SqB (K : PySem.W.Frag) (b : Bool) (H : Hp) (a : Addr) (xs : List V) : Prop := if b = true then SqL K H a xs else SqT K H a xs
def ItA (K : PySem.W.Frag) (b : Bool) (a : Addr) : It := if b = true then Itl K a else Itt K a
theorem SqB.or {K : PySem.W.Frag} {b : Bool} {H : Hp} {a : Addr} {xs : List V} (h : SqB K b H a xs) : SqL K H a xs ∨ SqT K H a xs := by
  cases b
  · exact .inr h
  · exact .inl h
theorem SqB.same {K : PySem.W.Frag} {b : Bool} {H H' : Hp} {a : Addr} {xs : List V} (h : SqB K b H a xs) (s : Same H H') : SqB K b H' a xs := by
  cases b
  · exact sm_seqT s h
  · exact s.seq h
theorem SqB.lst {K : PySem.W.Frag} {H : Hp} {a : Addr} {xs : List V} (h : H a = some (.lst xs)) : SqB K true H a xs := SqL.of h
theorem SqB.tup {K : PySem.W.Frag} {H : Hp} {a : Addr} {xs : List V} (h : H a = some (.tup xs)) : SqB K false H a xs := SqT.of h
def seqB (b : Bool) (xs : List V) : HO := if b = true then .lst xs else .tup xs
theorem SqB.of {K : PySem.W.Frag} {b : Bool} {H : Hp} {a : Addr} {xs : List V} (h : H a = some (seqB b xs)) : SqB K b H a xs := by
  cases b
  · exact SqB.tup h
  · exact SqB.lst h
theorem walk_seq {K : PySem.W.Frag} {b : Bool} {a : Addr} {xs : List V} : Walk (ItA K b a) xs.length (fun H => SqB K b H a xs) (YAt xs) := by
  cases b
  · exact walk_tup
  · exact walk_list
def iSeq (K : PySem.W.Frag) (tl : TE) : TI := fun σ H R => tl σ H fun x H1 => ∃ a b xs, x = .ref a ∧ SqB K b H1 a xs ∧ R (ItA K b a) H1
theorem pi_seq {X : Cx} {tg l : Expr} {tl : TE} (hl : PE X l tl) : PI X tg l (iSeq X.K tl) := by
  refine ⟨fun pins s σ H R I h => thn (hl.run pins s σ H _ I h) fun v s1 ⟨x, H1, I1, r1, a, b, xs, e, hq, q⟩ => ?_⟩
  subst e
  cases r1
  have new : ∀ c ∈ [s1.heap.objs.size], FpOk X pins H1 c := fun c hc => by
    rw [List.mem_singleton.mp hc]
    exact I1.fpOk (Nat.le_refl _) (I1.hok.fresh (Nat.le_refl _))
  cases b with
  | true =>
    obtain ⟨its, rv, p, hz⟩ := I1.list hq
    exact wpAny_pyIter_list p.isList ⟨s1.heap.objs.size, _, _, _, H1, rfl, I1.kept (t' := s1.toks) fun b o e => Heap.get?_push_of_some _ e, turn_list a _, ⟨_, Heap.get?_push_size _ rfl, rfl, rfl⟩, new, q⟩
  | false =>
    obtain ⟨its, rv, p, hz⟩ := I1.tuple hq
    exact wpAny_pyIter_tuple (show s1.heap.IsTuple a its.toArray from p) ⟨s1.heap.objs.size, _, _, _, H1, rfl, I1.kept (t' := s1.toks) fun b o e => Heap.get?_push_of_some _ e, turn_tuple a _, ⟨_, Heap.get?_push_size _ rfl, rfl, rfl⟩, new, q⟩
theorem pi_listK {X : Cx} {tg l : Expr} {tl : TE} (K : PySem.W.Frag) (hl : PE X l tl) (h : X.K = K := by rfl) : PI X tg l (iList K tl) := by subst h; exact pi_list hl
theorem pi_tupK {X : Cx} {tg l : Expr} {tl : TE} (K : PySem.W.Frag) (hl : PE X l tl) (h : X.K = K := by rfl) : PI X tg l (iTup K tl) := by subst h; exact pi_tup hl
theorem pi_seqK {X : Cx} {tg l : Expr} {tl : TE} (K : PySem.W.Frag) (hl : PE X l tl) (h : X.K = K := by rfl) : PI X tg l (iSeq K tl) := by subst h; exact pi_seq hl
def inS : Expr → Scope
  | .ListComp (.ListComp _ _ s _) _ _ _ => s
  | _ => { kind := .function, names := [], isGenerator := false, isCoroutine := false }
def outS : Expr → Scope
  | .ListComp _ _ s _ => s
  | _ => { kind := .function, names := [], isGenerator := false, isCoroutine := false }
def ofRet : Stmt → Expr
  | .Return (some e) _ => e
  | .Assign _ e _ => e
  | _ => .Constant .none 0 ⟨0, 0, 0, 0⟩
theorem tuple_of {K : PySem.W.Frag} {b : Bool} {H : Hp} {a : Addr} {xs : List V} {Q : VK} (h : SqB K b H a xs) (q1 : ∀ l, H l = none → Q (.ref l) (upd H l (.tup xs))) (q2 : b = false → Q (.ref a) H) :
    (SqL K H a xs ∧ ∀ l, H l = none → Q (.ref l) (upd H l (.tup xs))) ∨ (SqT K H a xs ∧ Q (.ref a) H) := by
  cases b
  · exact .inr ⟨h, q2 rfl⟩
  · exact .inl ⟨h, q1⟩
theorem tupA {K : PySem.W.Frag} {b : Bool} {H : Hp} {a : Addr} {xs : List V} {Q : VK} (h : H a = some (seqB b xs)) (k : ∀ l H', Same H H' → H' l = some (.tup xs) → (b = false → l = a) → (b = true → H l = none) → Q (.ref l) H') :
    (SqL K H a xs ∧ ∀ l, H l = none → Q (.ref l) (upd H l (.tup xs))) ∨ (SqT K H a xs ∧ Q (.ref a) H) := by
  cases b
  · exact .inr ⟨SqT.of h, k a H (Same.refl H) h (fun _ => rfl) (fun h => nomatch h)⟩
  · exact .inl ⟨SqL.of h, fun l hl => k l _ (sm_new hl) upd_same (fun h => nomatch h) (fun _ => hl)⟩
theorem tCB_tup {K : PySem.W.Frag} {b : Bool} {i : Nat} {σ : L2.St} {H : Hp} {a : Addr} {xs : List V} {Q : VK} (hv : σ[i]? = some (some (.ref a))) (h : H a = some (seqB b xs)) (k : ∀ l H', Same H H' → H' l = some (.tup xs) → (b = false → l = a) → (b = true → H l = none) → Q (.ref l) H') :
    tCB (fun xs H Q => ∃ p ys, xs = [.ref p] ∧ ((SqL K H p ys ∧ ∀ l, H l = none → Q (.ref l) (upd H l (.tup ys))) ∨ (SqT K H p ys ∧ Q (.ref p) H))) (tCons (tVar i) tNil) σ H Q :=
  ⟨_, hv, a, xs, rfl, tupA (Q := Q) h k⟩
theorem eqV_S {x y : List Nat} : eqV (.str (S x)) (.str (S y)) = decide (x = y) := by
  show (S x == S y) = _
  by_cases e : x = y
  · subst e; simp
  · have : S x ≠ S y := fun h => e (by have : (S x).cps.toList = (S y).cps.toList := congrArg (fun z : Str => z.cps.toList) h; simpa [S] using this)
    rw [decide_eq_false e]; simpa using this
theorem flat_txs (xs : List (List Nat)) : (txs xs).all flatV = true := by
  unfold txs; rw [List.all_map]; exact List.all_eq_true.mpr fun _ _ => rfl
theorem inV_txs {x : List Nat} {xs : List (List Nat)} : inV (.str (S x)) (txs xs) = decide (x ∈ xs) := by
  unfold inV txs
  induction xs with
  | nil => rfl
  | cons y ys ih =>
    rw [List.map_cons, List.any_cons, ih]
    show (eqV (.str (S y)) (.str (S x)) || _) = _
    rw [eqV_S]
    by_cases e : y = x <;> by_cases e2 : x ∈ ys <;> simp [e, e2]
    · intro h; exact absurd h.symm e
theorem dictZipK {X : Cx} (K : PySem.W.Frag) {e e2 : Expr} {ta : TA} {p p2 pos pos2 : Pos} (hc : X.calm = true) (hgd : Gl X "dict") (hmd : X.mg "dict" = none) (hg : Gl X "zip") (hm : X.mg "zip" = none) (ha : PA X [e, e2] ta) (h : X.K = K := by rfl)
    (hs : starEach [e, e2] X.env = (false, eval e X.env) :: starEach [e2] X.env := by rfl) (hpl : (backTo pos2 (starEach [e2] X.env)).any (·.1) = false := by rfl)
    (hs' : starEach [.Call (.Name "zip" p2) [e, e2] [] pos2] X.env = (false, eval (.Call (.Name "zip" p2) [e, e2] [] pos2) X.env) :: starEach [] X.env := by rfl) (hpl' : (backTo pos (starEach [] X.env)).any (·.1) = false := by rfl) :
    PE X (.Call (.Name "dict" p) [.Call (.Name "zip" p2) [e, e2] [] pos2] [] pos) (tDictZip K ta) := by subst h; exact pe_dictZip hc hgd hmd hg hm ha hs hpl hs' hpl'
end LX
set_option maxHeartbeats 2000000
namespace LX
open PySem PySem.Spec PyProof.Rows L2 C8 SX NdefX
noncomputable def upB (h base : Heap) (cs : List Addr) : Heap := hidT h fun b => if (base.get? b).isSome = true ∨ b ∈ cs then none else some (.lst [])
theorem upB_get {h base : Heap} {cs : List Addr} {b : Addr} {o : Obj} (e : h.get? b = some o) (n : (base.get? b).isSome = true ∨ b ∈ cs) : (upB h base cs).get? b = some o := hidT_get e (if_pos n)
theorem of_upB {h base : Heap} {cs : List Addr} {b : Addr} {o : Obj} (e : (upB h base cs).get? b = some o) : h.get? b = some o ∧ ((base.get? b).isSome = true ∨ b ∈ cs) := by
  obtain ⟨e1, e2⟩ := of_hidT e
  refine ⟨e1, ?_⟩
  by_cases n : (base.get? b).isSome = true ∨ b ∈ cs
  · exact n
  · have e2 : (if (base.get? b).isSome = true ∨ b ∈ cs then none else some (HO.lst [])) = none := e2
    rw [if_neg n] at e2; cases e2
structure BCells (cl : List (Str × Addr)) (fr : List Str) (ws : List (Option V)) (base : Heap) : Prop where
  len : ws.length = fr.length
  all : ∀ y c, cl.lookup y = some c → ∃ v, base.IsCell c v
  inj : ∀ x y c, cl.lookup x = some c → cl.lookup y = some c → x = y
  has : ∀ (i : Nat) (y : Str), fr[i]? = some y → ∃ c, cl.lookup y = some c ∧ ∀ v, ws[i]? = some (some v) → ∃ u, RelV v u ∧ base.IsCell c (some u)
theorem BCells.at_ {cl : List (Str × Addr)} {fr : List Str} {ws : List (Option V)} {base : Heap} (b : BCells cl fr ws base) {h : Heap} {H : Hp} (bs : ∀ b o, base.get? b = some o → h.get? b = some o ∧ H b = none) : CellsAt cl fr ws h H :=
  ⟨b.len, fun y c e => let ⟨v, o, e1, e2⟩ := b.all y c e; ⟨(bs _ _ e1).2, v, o, (bs _ _ e1).1, e2⟩, b.inj, fun i y e => let ⟨c, e1, f⟩ := b.has i y e; ⟨c, e1, fun v hv => let ⟨u, r, o, e2, e3⟩ := f v hv; ⟨u, r, o, (bs _ _ e2).1, e3⟩⟩⟩
section
variable {X : Cx} {pins : List (Addr × Obj)} {σ : L2.St} {H : Hp} {s : Shared}
theorem funs_up {h base : Heap} {cs : List Addr} : ∀ {l : List Env}, h.FunFrames base l → (∀ b ∈ frs l, b ∉ cs) → h.FunFrames (upB h base cs) l
  | [], _, _ => trivial
  | env :: rest, ⟨a, ⟨L, o, e1, e2, e3, e4⟩, r⟩, n => by
    have hm : L ∈ frs (env :: rest) := by unfold frs; rw [List.filterMap_cons, e1]; exact List.mem_cons_self
    refine ⟨a, ⟨L, o, e1, ?_, e3, e4⟩, funs_up r fun b hb => n b ?_⟩
    · cases q : (upB h base cs).get? L with
      | none => rfl
      | some o' =>
        rcases (of_upB q).2 with z | z
        · rw [e2] at z; cases z
        · exact absurd z (n L hm)
    · unfold frs at hb ⊢; rw [List.filterMap_cons, e1]; exact List.mem_cons_of_mem _ hb
theorem env_up (I : Inv X pins σ H s) {cs : List Addr} (hc : ∀ c ∈ cs, ∃ x, X.env.cells.lookup x = some c ∧ X.fn x = true) : Env0 X.prog X.w X.K X.mg (upB s.heap X.base cs) X.A X.stack s H := by
  have e0 := I.env0
  have k : ∀ b o, X.base.get? b = some o → (upB s.heap X.base cs).get? b = some o := fun b o e => upB_get (e0.bs b o e).1 (.inl (by rw [e]; rfl))
  obtain ⟨mb, b1, b2⟩ := e0.mod.blt
  refine ⟨e0.frames, ⟨fun b o e => k b o (e0.mod.kin b o e), e0.mod.glob.keeps k, ⟨mb, b1.keeps k, b2⟩, e0.mod.nolimit.keeps k⟩, fun b o e => ?_, Nat.le_of_eq (hidT_size _ _), funs_up e0.funs fun L hL hm => ?_, e0.frf, e0.hok, e0.bare⟩
  · obtain ⟨e1, n⟩ := of_upB e
    refine ⟨e1, ?_⟩
    rcases n with n | n
    · obtain ⟨o', q⟩ := Option.isSome_iff_exists.mp n
      exact (e0.bs b o' q).2
    · obtain ⟨x, hx, _⟩ := hc b n
      exact I.freeC x b hx
  · obtain ⟨x, hx, hf⟩ := hc L hm
    have above := I.ok.cab x L hf hx
    have out : ∀ l : List Env, X.s_0.heap.FunFrames X.base l → L ∈ frs l → False := fun l => by
      induction l with
      | nil => intro _ h; simp [frs] at h
      | cons env rest ih =>
        rintro ⟨_, ⟨M, o, e1, _, e3, _⟩, r⟩ h
        unfold frs at h; rw [List.filterMap_cons, e1] at h
        rcases List.mem_cons.mp h with z | z
        · have := Heap.lt_size e3
          rw [← z] at this
          exact Nat.lt_irrefl _ (Nat.lt_of_lt_of_le this above)
        · exact ih r z
    rcases I.ok.stk with e | ⟨e, ef⟩
    · rw [e] at hL; exact out _ I.ok.funs hL
    · rw [e] at hL
      unfold frs at hL; rw [List.filterMap_cons, ef] at hL
      rcases List.mem_cons.mp hL with z | z
      · obtain ⟨m, ⟨o, es, ep, e1, e2, _⟩, _⟩ := I.loc
        obtain ⟨v, o', q1, q2⟩ := I.cell x L hx
        rw [z, e1] at q1
        cases q1
        rw [e2] at q2; cases q2
      · exact out _ I.ok.funs z
theorem cells_up (I : Inv X pins σ H s) {cl : List (Str × Addr)} {fr : List Str} {js : List Nat} (c : Caps X cl fr js) : BCells cl fr (js.map (slotAt σ)) (upB s.heap X.base (cl.map (·.2))) := by
  have C := cells_of I c
  have mem : ∀ {y : Str} {a : Addr}, cl.lookup y = some a → a ∈ cl.map (·.2) := fun {y a} h => by
    obtain ⟨l1, l2, e, _⟩ := List.lookup_eq_some_iff.mp h
    rw [e]; simp
  refine ⟨C.len, fun y a e => ?_, C.inj, fun i y e => ?_⟩
  · obtain ⟨_, v, o, e1, e2⟩ := C.all y a e
    exact ⟨v, o, upB_get e1 (.inr (mem e)), e2⟩
  · obtain ⟨a, e1, f⟩ := C.has i y e
    exact ⟨a, e1, fun v hv => let ⟨u, r, o, e2, e3⟩ := f v hv; ⟨u, r, o, upB_get e2 (.inr (mem e1)), e3⟩⟩
def tUp (S : List (Option V) → Sp → Prop) (js : List Nat) (t : TA) : TE := fun σ H Q => t σ H fun vs H1 => ∃ sp, S (js.map (slotAt σ)) sp ∧ sp vs H1 Q C8.E0
theorem pe_cUp {k j : Nat} {g : Addr} {x : Str} {p pos : Pos} {e : Expr} {es : List Expr} {t : TA} {cl : List (Str × Addr)} {fr : List Str} {js : List Nat} {S : List (Option V) → Sp → Prop} (named : X.mg x = some (.ref g)) (kept : PySem.W.keepIn X.K (.ref g) = true)
    (cp : X.Ok → Caps X cl fr js) (hfn : ∀ y c, cl.lookup y = some c → X.fn y = true)
    (hS : ∀ ws sp (base' : Heap), S ws sp → X.K.In base' → base'.Ns mainGlobals X.mg → BCells cl fr ws base' → Cal X.prog X.w X.K X.mg base' k x sp []) (room : Room j X.A) (hk : k ≤ j) (hg : Gl X x) (ha : PA X (e :: es) t) (nd : cl.map (·.1) |>.Nodup) (hdb : (x == ("__debug__" : Str)) = false := by decide)
    (he : starEach (e :: es) X.env = (false, eval e X.env) :: starEach es X.env := by rfl) (hpl : (backTo pos (starEach es X.env)).any (·.1) = false := by rfl) : PE X (.Call (.Name x p) (e :: es) [] pos) (tUp S js t) := by
  constructor
  intro pins s σ H Q I want
  refine wpAny_Call_Name_kw (ld_glob I hg named ?_ hdb)
  refine PySem.W.callWith_K (h₀ := X.base) I.ok.mod.kin kept (thn (ha.run pos pins s σ H _ I want) ?_) he hpl
  rintro us s1 ⟨vs, H1, I1, rel, sp, s0, q⟩
  refine ⟨I1.kIn, ?_⟩
  have C := cp I1.ok
  have hcs : ∀ c ∈ cl.map (·.2), ∃ x, X.env.cells.lookup x = some c ∧ X.fn x = true := fun c hc => by
    obtain ⟨⟨y, c'⟩, hm, rfl⟩ := List.mem_map.mp hc
    have hl : cl.lookup y = some c' := by
      clear C hfn hS cp
      induction cl with
      | nil => cases hm
      | cons a r ih =>
        obtain ⟨z, d⟩ := a
        rw [List.map_cons, List.nodup_cons] at nd
        rcases List.mem_cons.mp hm with h | h
        · cases h; exact List.lookup_cons_self ..
        · have hne : (y == z) = false := by
            refine beq_eq_false_iff_ne.mpr fun e => nd.1 ?_
            rw [← e]; exact List.mem_map_of_mem (f := (·.1)) h
          rw [List.lookup_cons, hne]
          exact ih nd.2 h (List.mem_map_of_mem (f := (·.2)) h)
    exact ⟨y, C.sub y c' hl, hfn y c' hl⟩
  have E1 := env_up I1 hcs
  obtain ⟨f, fd, ps, ds, F, named', _, bd, dv⟩ := (hS _ sp _ s0 E1.mod.kin E1.mod.glob (cells_up I1 C)).ex
  rw [named] at named'
  cases named'
  cases dv
  have count : (us ++ []).length = ps.length := by rw [List.append_nil, ← rel.length]; exact F.len _ _ _ _ q
  have bs := bd s1 us I1.kIn count
  rw [List.append_nil] at bs
  refine wpAny_call (codeAny_mono (F.run X.A X.stack s1 H1 ⟨us, []⟩ us vs Q C8.E0 (room.mono hk) E1 bs rel q) fun r t' got => ?_)
  match r, got with
  | .ok (.ret u), got => exact I1.after got
end
def CV (P : Program) (w : World) (K : PySem.W.Frag) (mg : Str → Option Value) (base : Heap) (k : Nat) (g : Addr) (tr : Hp → Prop) (sp : Sp) : Prop :=
  Held P w K mg base k g sp ∨
    ∃ (F : NF) (ps fr : List Str) (ws : List (Option V)) (nsp : List (Option V) → Sp), NOk P w K mg base C8.CX0 k g F ps fr nsp ∧ (∀ vs H Q, tr H → sp vs H Q C8.E0 → nsp ws vs H Q C8.E0) ∧ BCells F.cl fr ws base ∧ ∀ H, tr H → H g = some (FnO g F) ∧ H F.c = some (LamX.CodeO F.c F.qual)
def tCallV (i : Nat) (g : Addr) (tr : Hp → Prop) (sp : Sp) (t : TA) : TE := fun σ H Q => σ[i]? = some (some (.ref g)) ∧ tr H ∧ t σ H fun vs H1 => tr H1 ∧ sp vs H1 Q C8.E0
theorem pe_callV {X : Cx} {k j i : Nat} {g : Addr} {tr : Hp → Prop} {sp : Sp} {x : Str} {p pos : Pos} {e : Expr} {es : List Expr} {t : TA} (c : CV X.prog X.w X.K X.mg X.base k g tr sp) (room : Room j X.A) (hk : k ≤ j) (hN : X.N[i]? = some x) (hv : Vis X.env.scope x) (ha : PA X (e :: es) t)
    (hd : (x == ("__debug__" : Str)) = false := by decide) (hcd : (x == ("__classdict__" : Str)) = false := by decide)
    (he : starEach (e :: es) X.env = (false, eval e X.env) :: starEach es X.env := by rfl) (hpl : (backTo pos (starEach es X.env)).any (·.1) = false := by rfl) : PE X (.Call (.Name x p) (e :: es) [] pos) (tCallV i g tr sp t) := by
  constructor
  rintro pins s σ H Q I ⟨hs, ht, want⟩
  rcases c with ⟨fd, ps, F, kept, bd⟩ | ⟨F, ps, fr, ws, nsp, N, hsp, B, htr⟩
  · have F' : FnOk X.prog X.w X.K X.mg X.base (fun _ _ _ _ _ _ => False) k g fd ps (fun vs H Q E => tr H ∧ sp vs H Q E) := F.imp fun _ _ _ _ q => q.2
    refine (pe_callL (i := i) (dvs := []) (E := fun _ _ _ => False) F' (room.mono hk) hN hv kept bd .nil (fun _ _ _ _ _ _ _ z => z.elim) ha hd hcd he hpl).run pins s σ H Q I ⟨hs, ?_⟩
    have e0 : (fun (vs : List V) (H1 : Hp) => tr H1 ∧ sp (vs ++ []) H1 Q fun _ _ _ => False) = fun vs H1 => tr H1 ∧ sp vs H1 Q C8.E0 := by funext vs H1; rw [List.append_nil]; rfl
    show t σ H fun vs H1 => tr H1 ∧ sp (vs ++ []) H1 Q fun _ _ _ => False
    rw [e0]; exact want
  · refine wpAny_Call_Name_kw (thn ((pe_var (pos := p) hN hv hd hcd).run pins s σ H (fun v H1 => v = .ref g ∧ H1 = H) I ⟨.ref g, hs, rfl, rfl⟩) fun u s1 ⟨v, H1, I1, r1, ev, eH⟩ => ?_)
    subst ev
    rw [eH] at I1
    obtain rfl : u = Value.ref g := r1
    refine PySem.W.callWith_F (first := []) (fnAt_of I1 (htr H ht).1) (thn (ha.run pos pins s1 σ H _ I1 want) fun us s2 ⟨vs, H2, I2, r, h1, q⟩ => ⟨fnAt_of I2 (htr H2 h1).1, ?_⟩) he hpl
    refine wpAny_call (codeAny_mono (N.run X.A X.stack s2 H2 us vs ws Q C8.E0 (room.mono hk) I2.env0 (htr H2 h1).1 (htr H2 h1).2 (B.at_ I2.env0.bs) r (hsp vs H2 Q h1 q)) fun r t' got => ?_)
    match r, got with
    | .ok (.ret u), got => exact I2.after got
theorem calC {P : Program} {w : World} {K : PySem.W.Frag} {mg : Str → Option Value} {base : Heap} {x : Str} {st : Stmt} {f : Addr} {fd : FuncData} {N ps : List Str} {ds : List Value} {dvs : List V} {k : Nat} {sp : Sp} {cdv : Value} (F : C8.Def K mg x st f fd) (hc : fd.code = cdv) (b : Binds K fd ps ds) (d : Vals dvs ds) (S : FnScope N ps (C8.fnScope st)) (len : ∀ vs H Q E, sp vs H Q E → vs.length = ps.length)
    (hbody : ∀ (A : Around) (outer : List Env) (s : Shared) (H : Hp) (vs : List V) (Q : VK) (E : XK), Room k (A.deeper (envOfC x (C8.fnScope st) s.heap.objs.size f cdv)) → sp vs H Q E →
      ∃ t, PSs (cxOf C8.CX0 P w K mg base N x (C8.fnScope st) f cdv A outer s H E).nox (C8.fnBody st) t ∧ t { nx := fun _ H' => Q .non H', rt := Q } (start N vs) H) : C8.Cal P w K mg base (k + 1) x sp dvs := by
  refine ⟨f, fd, ps, ds, ?_, F.mgf, F.kp, b, d⟩
  obtain ⟨oc, od, dV, kV, doc, pm, an, cdv', ct, osl, rfl, lk, hcd⟩ := F.fn.ex
  obtain rfl : cdv' = cdv := hc
  refine fn_of lk hcd S len fun A outer s H vs Q E hr hsp => ?_
  obtain ⟨t, h, q⟩ := hbody A outer s H vs Q E hr hsp
  exact ⟨t, h.nox, q⟩
end LX
set_option maxHeartbeats 2000000
namespace LX
open PySem PySem.Spec PyProof.Rows L2 C8 SX NdefX
def takenN (ok : Nat → Bool) (n : Nat) : List Nat := (List.range n).filter ok
theorem takenN_yes {ok : Nat → Bool} {n : Nat} (h : ok n = true) : takenN ok (n + 1) = takenN ok n ++ [n] := by
  unfold takenN; rw [List.range_succ, List.filter_append, List.filter_cons_of_pos h]; rfl
theorem takenN_no {ok : Nat → Bool} {n : Nat} (h : ok n = false) : takenN ok (n + 1) = takenN ok n := by
  unfold takenN; rw [List.range_succ, List.filter_append, List.filter_cons_of_neg (by rw [h]; exact Bool.false_ne_true)]; exact List.append_nil _
theorem takenN_le {ok : Nat → Bool} {n : Nat} : (takenN ok n).length ≤ n := by
  unfold takenN
  exact Nat.le_trans (List.length_filter_le _ _) (by rw [List.length_range]; exact Nat.le_refl _)
theorem lc_keepF {Rel : Hp → Hp → Prop} {J : It} {n : Nat} {G : Hp → Prop} {Y : Nat → Hp → V → Hp → Prop} {H1 : Hp} (kp : Keep Rel H1) (w : Walk J n G Y) {g : TG} {tt : TT} {te : TE} {vs : List Nat} {σ : L2.St} {D : Addr} {Qd : Hp → Prop} (hD : H1 D = none) (hn : n < sizeLine)
    (ok : Nat → Bool) (Good : Nat → V → Hp → Prop) (hG : ∀ H, Rel H1 H → G H)
    (st : ∀ i y H H', Rel H1 H → Rel H H' → Good i y H → Good i y H') (pt : ∀ i y H acc o, Rel H1 H → H D = some (.lst acc) → Good i y H → Good i y (upd H D o))
    (hs : ∀ i x H H' acc (N : Hp → Prop) (R : V → Hp → Prop), i < n → Rel H1 H → H D = some (.lst acc) → Y i H x H' → (ok i = true → ∀ y H4, Rel H H4 → Good i y H4 → R y H4) → (ok i = false → ∀ H4, Rel H H4 → N H4) →
      g x (wipe σ vs) H' fun σ2 H2 => wipe σ2 vs = wipe σ vs ∧ tt σ2 H2 fun b H3 => if b = true then te σ2 H3 R else N H3)
    (hd : ∀ ys H, ys.length = (takenN ok n).length → (∀ (j k : Nat) y, (takenN ok n)[j]? = some k → ys[j]? = some y → Good k y H) → Rel H1 H → H D = some (.lst ys) → Qd H) :
    ∃ W : Nat → Nat → Hp → Prop, (∃ m, W 0 m (upd H1 D (.lst []))) ∧ ∀ i m H, W i m H →
      (J.stop i H ∧ Qd H) ∨ (J.go i H ∧ ∃ Nx : Hp → Prop, (∀ H', Nx H' → ∃ m', m' < m ∧ W (i + 1) m' H') ∧ ∀ x H', J.yld i H x H' → g x (wipe σ vs) H' fun σ2 H2 => wipe σ2 vs = wipe σ vs ∧ tt σ2 H2 fun b H3 =>
        if b = true then te σ2 H3 fun y H4 => ∃ acc, H4 D = some (.lst acc) ∧ acc.length < sizeLine ∧ Nx (upd H4 D (.lst (acc ++ [y]))) else Nx H3) := by
  refine lc_it w (fun i H => ∃ acc, acc.length = (takenN ok i).length ∧ H D = some (.lst acc) ∧ Rel H1 H ∧ ∀ (j k : Nat) y, (takenN ok i)[j]? = some k → acc[j]? = some y → Good k y H) ⟨[], rfl, upd_same, kp.put _ _ _ kp.refl hD, fun j k y _ e => by simp at e⟩
    (fun i H _ ⟨_, _, _, r, _⟩ => hG H r) (fun i x H H' hi ⟨acc, hl, hDa, r, hg⟩ hy => ?_) (fun H ⟨acc, hl, hDa, r, hg⟩ => hd acc H hl hg r hDa)
  have hle := takenN_le (ok := ok) (n := i)
  refine hs i x H H' acc _ _ hi r hDa hy (fun ho y H4 r4 gy => ?_) (fun ho H4 r4 => ?_)
  · have hD4 := kp.get _ _ _ _ r4 hD r hDa
    have r5 := kp.trans _ _ r r4
    refine ⟨acc, hD4, by omega, acc ++ [y], by rw [takenN_yes ho]; simp [hl], upd_same, kp.put _ _ _ r5 hD, fun j k z ek e => ?_⟩
    rw [takenN_yes ho] at ek
    rcases Nat.lt_or_ge j acc.length with h | h
    · rw [List.getElem?_append_left h] at e
      rw [List.getElem?_append_left (by omega)] at ek
      exact pt _ _ _ _ _ r5 hD4 (st _ _ _ _ r r4 (hg j k z ek e))
    · rw [List.getElem?_append_right h] at e
      rw [List.getElem?_append_right (by omega)] at ek
      have hj : j - acc.length = 0 := by
        rcases Nat.lt_or_ge (j - acc.length) 1 with z | z
        · omega
        · rw [List.getElem?_eq_none (by simpa using z)] at e; cases e
      have hj2 : j - (takenN ok i).length = 0 := by omega
      rw [hj] at e; rw [hj2] at ek
      obtain rfl : y = z := Option.some.inj e
      obtain rfl : i = k := Option.some.inj ek
      exact pt _ _ _ _ _ r5 hD4 gy
  · have hD4 := kp.get _ _ _ _ r4 hD r hDa
    exact ⟨acc, by rw [takenN_no ho]; exact hl, hD4, kp.trans _ _ r r4, fun j k y ek e => by rw [takenN_no ho] at ek; exact st _ _ _ _ r r4 (hg j k y ek e)⟩
end LX
set_option maxHeartbeats 2000000
namespace LX
open PySem PySem.Spec PyProof.Rows L2 C8 SX
def outD : Expr → Scope
  | .DictComp _ _ _ s _ => s
  | _ => { kind := .function, names := [], isGenerator := false, isCoroutine := false }
end LX
set_option maxHeartbeats 2000000
namespace LX
open PySem PySem.Spec PyProof.Rows L2 C8 SX
structure Fit (k n : Nat) (d : PyData) : Prop where
  lay : d.canLay0 = true
  int : d.intsShort 13 = true
  sho : d.showable = true
  dep : d.depth ≤ k
  wei : d.weight ≤ n
theorem Fit.mono {k n k' n' : Nat} {d : PyData} (f : Fit k n d) (hk : k ≤ k') (hn : n ≤ n') : Fit k' n' d := ⟨f.lay, f.int, f.sho, Nat.le_trans f.dep hk, Nat.le_trans f.wei hn⟩
theorem Fit.text {k n : Nat} {l : List Nat} (h : ∀ c ∈ l, c < 1114112) (hn : l.length ≤ n) : Fit k n (.str (S l)) := by
  refine ⟨?_, rfl, rfl, Nat.zero_le _, by simpa [PyData.weight, S] using hn⟩
  show (S l).cps.all (· < 0x110000) = true
  rw [← Array.all_toList, List.all_eq_true]
  exact fun c hc => decide_eq_true (h c hc)
theorem Fit.non {k n : Nat} : Fit k n .none := ⟨rfl, rfl, rfl, Nat.zero_le _, Nat.zero_le _⟩
theorem Fit.bl {k n : Nat} {b : Bool} : Fit k n (.bool b) := ⟨rfl, rfl, rfl, Nat.zero_le _, Nat.zero_le _⟩
theorem Fit.all {k n : Nat} : ∀ {ds : List PyData}, (∀ d ∈ ds, Fit k n d) → PyData.canLayAll0 ds = true ∧ PyData.intsShortAll 13 ds = true ∧ PyData.showableAll ds = true ∧ PyData.depthAll ds ≤ k + 1 ∧ PyData.weightAll ds ≤ ds.length * (n + 1)
  | [], _ => ⟨rfl, rfl, rfl, Nat.zero_le _, Nat.zero_le _⟩
  | d :: ds, h => by
    obtain ⟨h1, h2, h3, h4, h5⟩ := Fit.all (ds := ds) fun x hx => h x (List.mem_cons_of_mem _ hx)
    have f := h d List.mem_cons_self
    refine ⟨?_, ?_, ?_, ?_, ?_⟩
    · show (d.canLay0 && PyData.canLayAll0 ds) = true; rw [f.lay, h1]; rfl
    · show (d.intsShort 13 && PyData.intsShortAll 13 ds) = true; rw [f.int, h2]; rfl
    · show (d.showable && PyData.showableAll ds) = true; rw [f.sho, h3]; rfl
    · have e : PyData.depthAll (d :: ds) = max d.depth (PyData.depthAll ds) ∨ PyData.depthAll (d :: ds) ≤ max (d.depth + 1) (PyData.depthAll ds) := by
        first | exact .inl rfl | exact .inr (by unfold PyData.depthAll; omega)
      have := f.dep
      rcases e with e | e
      · rw [e]; omega
      · omega
    · show d.weight + 1 + PyData.weightAll ds ≤ _
      have := f.wei
      rw [List.length_cons, Nat.add_mul]
      omega
theorem Fit.tup {k n m : Nat} {ds : List PyData} (h : ∀ d ∈ ds, Fit k n d) (hm : ds.length ≤ m) : Fit (k + 2) (m * (n + 1)) (.tuple ds) := by
  obtain ⟨h1, h2, h3, h4, h5⟩ := Fit.all h
  refine ⟨h1, h2, h3, ?_, Nat.le_trans h5 (Nat.mul_le_mul_right _ hm)⟩
  show PyData.depthAll ds + 1 ≤ _
  omega
theorem Fit.lst {k n m : Nat} {ds : List PyData} (h : ∀ d ∈ ds, Fit k n d) (hm : ds.length ≤ m) : Fit (k + 2) (m * (n + 1)) (.list ds) := by
  obtain ⟨h1, h2, h3, h4, h5⟩ := Fit.all h
  refine ⟨h1, h2, h3, ?_, Nat.le_trans h5 (Nat.mul_le_mul_right _ hm)⟩
  show PyData.depthAll ds + 1 ≤ _
  omega
theorem Fit.size {k n : Nat} {d : PyData} (f : Fit k n d) (hn : n ≤ 1000000) : d.shown.length ≤ sizeLine := by
  have h := PyData.shown_le 13 (by decide) d (PyData.leavesShort_of_canLay0 13 d f.lay f.int)
  have := f.wei
  have e : sizeLine = 16777216 := rfl
  omega
theorem Fit.shaped {k n : Nat} {d : PyData} (f : Fit k n d) (hk : k ≤ 60) (h : (∃ ds, d = .tuple ds) ∨ ∃ ds, d = .list ds) : SeqAt.shaped d = true := by
  rcases h with ⟨ds, rfl⟩ | ⟨ds, rfl⟩
  · show (PyData.canLayAll0 ds && decide (PyData.depthAll ds + 1 ≤ 64)) = true
    have h1 : PyData.canLayAll0 ds = true := f.lay
    have h2 : PyData.depthAll ds + 1 ≤ k := f.dep
    rw [h1, Bool.true_and, decide_eq_true_eq]; omega
  · show (PyData.canLayAll0 ds && decide (PyData.depthAll ds + 1 ≤ 64)) = true
    have h1 : PyData.canLayAll0 ds = true := f.lay
    have h2 : PyData.depthAll ds + 1 ≤ k := f.dep
    rw [h1, Bool.true_and, decide_eq_true_eq]; omega
section
variable {X : Cx} {j : Nat}
theorem call_reprF (gd : X.A.guards = some []) (room : Room j X.A) (K : PySem.W.Frag) (hK : X.K = K := by rfl) : CallR X (.builtin "repr") (fun xs H Q => ∃ (a : Addr) (d : PyData) (k n : Nat), xs = [.ref a] ∧ Dp K H (.ref a) d ∧ Fit k n d ∧ k ≤ 60 ∧ n ≤ 1000000 ∧ Q (.str d.shown) H) := by
  subst hK
  intro pins s σ H xs us Q I rel want
  obtain ⟨a, d, k, n, rfl, hd, f, hk, hn, q⟩ := want
  exact call_reprG gd room pins s σ H _ us Q I rel ⟨a, d, rfl, hd, f.sho, PyData.hasDict_of_canLay d f.lay, Nat.le_trans f.dep hk, f.size hn, q⟩
end
mutual
theorem Dp.same {K : PySem.W.Frag} {H H' : Hp} (s : Same H H') : ∀ {d : PyData} {v : V}, Dp K H v d → Dp K H' v d
  | .none, _, h => by cases h; exact .non
  | .bool _, _, h => by cases h; exact .bl _
  | .int _, _, h => by cases h; exact .int _
  | .str _, _, h => by cases h; exact .str _
  | .list _, _, h => by cases h with | lst q r => exact .lst (s.seq q) (DpAll.same s r)
  | .tuple _, _, h => by cases h with | tup q r => exact .tup (sm_seqT s q) (DpAll.same s r)
  | .dict _, _, h => by cases h
theorem DpAll.same {K : PySem.W.Frag} {H H' : Hp} (s : Same H H') : ∀ {ds : List PyData} {vs : List V}, DpAll K H vs ds → DpAll K H' vs ds
  | [], _, h => by cases h; exact .nil
  | _ :: _, _, h => by cases h with | cons q r => exact .cons (Dp.same s q) (DpAll.same s r)
end
theorem dpAll_get {K : PySem.W.Frag} {H : Hp} {α : Type} {f : α → V} {g : α → PyData} : ∀ {xs : List α}, (∀ x ∈ xs, Dp K H (f x) (g x)) → DpAll K H (xs.map f) (xs.map g)
  | [], _ => .nil
  | x :: xs, h => .cons (h x List.mem_cons_self) (dpAll_get fun y hy => h y (List.mem_cons_of_mem _ hy))
end LX
set_option maxHeartbeats 2000000
namespace LX
open PySem PySem.Spec PyProof.Rows L2 C8 SX
section
variable {X : Cx}
theorem pe_joinK (K : PySem.W.Frag) {o e : Expr} {to te : TE} {apos pos : Pos} (ho : PE X o to) (he : PE X e te) (hK : X.K = K := by rfl) (hs : starEach [e] X.env = [(false, eval e X.env)] := by rfl) (hbase : attributeBase o "join" X.env (eval o X.env) = eval o X.env := by rfl) (hline : (apos.endLine == pos.line) = true := by rfl) :
    PE X (.Call (.Attribute o "join" apos) [e] [] pos) (tM1 (fun x xs H Q => ∃ a p, ∃ ys : List Str, x = .str a ∧ xs = [.ref p] ∧ (SqL K H p (ys.map V.str) ∨ SqT K H p (ys.map V.str)) ∧
      (ys.map (·.length)).sum + ys.length * a.length ≤ 16777216 ∧ Q (.str (Txt.join a ys)) H) to te) := by subst hK; exact pe_join ho he hs hbase hline
end
def tJd (ts : List TE) : TE := fun σ H Q => tJs ts Str.empty σ H fun out H1 => Q (.str out) H1
theorem pe_joinedD {X : Cx} {v1 v2 : Expr} {rest : List Expr} {ts : List TE} {pos : Pos} (h : PJ X (v1 :: v2 :: rest) ts) : PE X (.JoinedStr (v1 :: v2 :: rest) pos) (tJd ts) := pe_joined h
theorem joinL_len {sep : List Nat} {m : Nat} : ∀ {ys : List (List Nat)}, (∀ y ∈ ys, y.length ≤ m) → (TL.joinL sep ys).length ≤ ys.length * (m + sep.length)
  | [], _ => by simp [TL.joinL]
  | [y], h => by
    have := h y List.mem_cons_self
    simp [TL.joinL]
    omega
  | y :: z :: ys, h => by
    have ih := joinL_len (sep := sep) (ys := z :: ys) fun x hx => h x (List.mem_cons_of_mem _ hx)
    have h1 := h y List.mem_cons_self
    have e : TL.joinL sep (y :: z :: ys) = y ++ sep ++ TL.joinL sep (z :: ys) := by simp [TL.joinL]
    rw [e, List.length_append, List.length_append, List.length_cons, Nat.add_mul]
    omega
theorem sum_lens {m : Nat} : ∀ {ys : List (List Nat)}, (∀ l ∈ ys, l.length ≤ m) → ((ys.map S).map (·.length)).sum ≤ ys.length * m
  | [], _ => by simp
  | y :: ys, h => by
    have ih := sum_lens (m := m) (ys := ys) fun l hl => h l (List.mem_cons_of_mem _ hl)
    have h0 := h y List.mem_cons_self
    simp only [List.map_cons, List.sum_cons, List.length_cons]
    rw [S_len, Nat.add_mul]
    omega
theorem joinS_ok {m n : Nat} {sep : List Nat} {ys : List (List Nat)} (h : ∀ l ∈ ys, l.length ≤ m) (hn : ys.length ≤ n) (hm : n * (m + sep.length) ≤ 16000000) : ((ys.map S).map (·.length)).sum + (ys.map S).length * (S sep).length ≤ 16777216 := by
  rw [S_len, List.length_map]
  have := sum_lens h
  have h2 : ys.length * (m + sep.length) ≤ n * (m + sep.length) := Nat.mul_le_mul_right _ hn
  rw [Nat.mul_add] at h2
  omega
end LX
set_option maxHeartbeats 2000000
namespace LX
open PySem PySem.Spec PyProof.Rows L2 C8 SX
section
variable {X : Cx} {k j : Nat} {C : Addr} {sp : Sp}
theorem met_runV {mth : Str} {pins : List (Addr × Obj)} {σ : L2.St} {H : Hp} {s : Shared} {A : Around} {a : Addr} {y : V} {u : Value} {Q : Value → Shared → Prop} (c : Met X.prog X.w X.K X.mg X.base k C mth sp []) (hr : Room k A) (hfr : A.frames = X.A.frames) (I : Inv X pins σ H s) (ry : RelV y u)
    {R : VK} (hsp : sp [.ref a, y] H R C8.E0) (hQ : ∀ v z H' s', Inv X pins σ H' s' → RelV z v → R z H' → Q v s') :
    ∃ f, PySem.W.findIn X.K (.ref C) mth = some (some (.ref f)) ∧ PySem.W.isFn X.K (.ref f) = true ∧ wpAny (model X.prog X.w) A (call (.ref f) [.ref a, u]) Q X.xe s := by
  obtain ⟨f, fd, ps, ds, hc, hm, F, hb, hd⟩ := c.ex
  refine ⟨f, hm.at_, hm.fn, ?_⟩
  have e0 : Env0 X.prog X.w X.K X.mg X.base A X.stack s H := by
    have e := I.env0
    exact ⟨by rw [hfr]; exact e.frames, e.mod, e.bs, e.bsz, e.funs, e.frf, e.hok, e.bare⟩
  have hds : ds = [] := by cases hd; rfl
  subst hds
  have hl := F.len _ _ _ _ hsp
  have r2 : Vals [V.ref a, y] [Value.ref a, u] := .cons rfl (.cons ry .nil)
  refine wpAny_call (codeAny_mono (F.run A X.stack s H ⟨[.ref a, u], []⟩ [.ref a, u] [.ref a, y] _ C8.E0 hr e0 (by
    have := hb s [.ref a, u] I.kIn (by simpa using hl)
    simpa using this) r2 hsp) fun r s' hq => ?_)
  cases r with
  | error e => exact C8.pass0 (E := C8.E0) pins σ H s e s' I hq
  | ok fl =>
    cases fl with
    | ret w =>
      obtain ⟨z, H', I', rz, q⟩ := I.after hq
      exact hQ w z H' s' I' rz q
    | next => exact False.elim hq
    | brk => exact False.elim hq
    | cont => exact False.elim hq
def rEqIV (K : PySem.W.Frag) (C : Addr) (sp : Sp) : R2 := fun x y H Q => ∃ a dx fs t, x = .ref a ∧ H a = some (.ins C dx fs) ∧ TyX K H y t ∧ PySem.W.notFirst K C t = true ∧ sp [.ref a, y] H (fun v H' => ∃ r, v = .bl r ∧ Q (.bl r) H') C8.E0
theorem op_eqIV (c : Met X.prog X.w X.K X.mg X.base k C "__eq__" sp []) (hr : Room j X.A) (hk : k ≤ j) : OpR X (compareOp .Eq) (rEqIV X.K C sp) := by
  intro pins s σ H x y v u Q I rx ry h
  obtain ⟨a, dx, fs, t, rfl, ha, hty, hnf, hsp⟩ := h
  cases rx
  obtain ⟨mA, J, _⟩ := ins_get I.hok ha
  obtain ⟨od, J, _⟩ := J.look
  obtain ⟨m, hF⟩ := I.fr
  obtain ⟨P, kx, hP, _⟩ := kit_of I ry hty
  obtain ⟨f, hs, hf, hw⟩ := met_runV (Q := PySem.W.CmpBack (EP X pins σ Q)) c (hr.mono hk) rfl I ry hsp (fun v z H' s' I' rz q => by
    obtain ⟨r, rfl, q⟩ := q
    cases rz
    exact ⟨.bl r, H', I', rfl, q⟩)
  exact PySem.W.cmp_K (op := .Eq) (tb := t) hr.units0 hF I.ok.mod.kin J (kx.ty _ _ I.kIn hP) hnf hs hf hw
theorem op_eqDK (K : PySem.W.Frag) (hr : Room j X.A) (h : X.K = K := by rfl) : OpR X (compareOp .Eq) (rEqD K) := by subst h; exact op_eqD hr.units
theorem op_neDK (K : PySem.W.Frag) (hr : Room j X.A) (h : X.K = K := by rfl) : OpR X (compareOp .NotEq) (rNeD K) := by subst h; exact op_neD hr.units
end
def tD (xs : List (List Nat)) : PyData := .tuple (xs.map fun l => .str (S l))
def ttD (xss : List (List (List Nat))) : PyData := .tuple (xss.map tD)
theorem dp_t {K : PySem.W.Frag} {H : Hp} {a : Addr} {xs : List (List Nat)} (h : SqT K H a (txs xs)) : Dp K H (.ref a) (tD xs) := .tup h (dp_strs xs)
theorem eqv_t (xs ys : List (List Nat)) : PyData.eqv (tD xs) (tD ys) = decide (xs = ys) := eqv_strs xs ys
theorem eqv_tts : ∀ xss yss : List (List (List Nat)), PyData.eqvAll (xss.map tD) (yss.map tD) = decide (xss = yss)
  | [], [] => rfl
  | [], _ :: _ => rfl
  | _ :: _, [] => rfl
  | x :: xs, y :: ys => by
    show (PyData.eqv (tD x) (tD y) && PyData.eqvAll (xs.map tD) (ys.map tD)) = _
    rw [eqv_t, eqv_tts xs ys, ← Bool.decide_and]
    exact decide_eq_decide.mpr (by rw [List.cons.injEq])
theorem eqv_tt (xss yss : List (List (List Nat))) : PyData.eqv (ttD xss) (ttD yss) = decide (xss = yss) := eqv_tts xss yss
theorem fit_t {m n : Nat} {xs : List (List Nat)} (hs : Small xs) (hl : ∀ l ∈ xs, l.length ≤ n) (hm : xs.length ≤ m) : Fit 2 (m * (n + 1)) (tD xs) :=
  Fit.tup (k := 0) (n := n) (fun d hd => by obtain ⟨l, hl', rfl⟩ := List.mem_map.mp hd; exact Fit.text (hs l hl') (hl l hl')) (by rw [List.length_map]; exact hm)
theorem fit_tt {m n p : Nat} {xss : List (List (List Nat))} (h : ∀ xs ∈ xss, Small xs ∧ (∀ l ∈ xs, l.length ≤ n) ∧ xs.length ≤ m) (hp : xss.length ≤ p) : Fit 4 (p * (m * (n + 1) + 1)) (ttD xss) :=
  Fit.tup (k := 2) (fun d hd => by obtain ⟨xs, hx, rfl⟩ := List.mem_map.mp hd; obtain ⟨h1, h2, h3⟩ := h xs hx; exact fit_t h1 h2 h3) (by rw [List.length_map]; exact hp)
end LX
set_option maxHeartbeats 2000000
namespace LX
open PySem PySem.Spec PyProof.Rows L2 C8 SX
section
variable {X : Cx}
def tRevLX (K : PySem.W.Frag) (te ts : TE) : TE := fun σ H Q => te σ H fun x H1 => ts σ H1 fun y H2 => ∃ i, y = .int i ∧ (some i = some (-1) ∧ ∃ (a : Addr) (xs : List V), x = .ref a ∧ SqL K H2 a xs ∧ ∀ p, H2 p = none → Q (.ref p) (upd H2 p (.lst xs.reverse)))
theorem pe_revLX {e st : Expr} {te ts : TE} {p3 pos : Pos} (K : PySem.W.Frag) (he : PE X e te) (hs : PE X st ts) (hK : X.K = K := by rfl) : PE X (.Subscript e (.Slice none none (some st) p3) pos) (tRevLX K te ts) := by
  subst hK
  refine ⟨fun pins s σ H Q I h => ?_⟩
  refine Subscript_ (thn (he.run pins s σ H _ I h) fun v s1 ⟨x, H1, I1, r1, q1⟩ => ?_)
  have hst : PO X (some st) (tPart ts) := po_some hs
  refine wpAny_Slice (thn (po_none.run pins s1 σ H1 (fun o H2 => o = none ∧ H2 = H1) I1 ⟨rfl, rfl⟩) fun vl s2 ⟨l, H2, I2, pl, el, e2⟩ => ?_)
  subst el e2
  refine thn (po_none.run pins s2 σ H2 (fun o H3 => o = none ∧ H3 = H2) I2 ⟨rfl, rfl⟩) fun vu s3 ⟨u, H3, I3, pu, eu, e3⟩ => ?_
  subst eu e3
  refine thn (hst.run pins s3 σ H3 (fun o H4 => o = some (-1) ∧ ∃ (a : Addr) (xs : List V), x = .ref a ∧ SqL X.K H4 a xs ∧ ∀ p, H4 p = none → Q (.ref p) (upd H4 p (.lst xs.reverse))) I3 q1) fun vs s4 ⟨o, H4, I4, ps, eo, a, xs, ex, hx, q⟩ => ?_
  subst eo ex
  cases r1
  have I5 : Inv X pins σ H4 { s4 with heap := s4.heap.push { cls := .type "slice", data := .fields #[vl, vu, vs] } } := I4.kept (t' := s4.toks) fun b ob q => Heap.get?_push_of_some _ q
  obtain ⟨its, r, ht, hz⟩ := I5.list hx
  have hlen := r.length
  show wpAny (model X.prog X.w) X.A (subscriptTail e (.Slice none none (some st) p3) (.ref a) (.ref s4.heap.objs.size)) (EP X pins σ Q) X.xe { s4 with heap := s4.heap.push { cls := .type "slice", data := .fields #[vl, vu, vs] } }
  refine tail_any (ops := [.ref a, .ref s4.heap.objs.size]) ht.isList.typeIs (PySem.slot_list_getitem.lookup) ?_ (by with_unfolding_all rfl)
  refine wpAny_getItem_list_slice ht.isList (Heap.IsSliceOf.new _ vl vu vs) pl pu ps (by decide) ?_ (by rw [List.size_toArray]; omega)
  rw [PySem.W.krv_pick]
  refine ⟨.ref _, _, I5.laid (t' := s4.toks) (o := .lst xs.reverse) (fun b ob q => Heap.get?_push_of_some _ q) (Nat.le_refl _) ?_, rfl, q _ (I5.hok.fresh (Nat.le_refl _))⟩
  exact ⟨by rw [List.length_reverse]; exact hz, _, 0, r.reverse, Heap.get?_push_size _ rfl⟩
end
def NL (H H' : Hp) : Prop := ∀ a o, H a = some o → (∀ xs, o ≠ .lst xs) → H' a = some o
theorem NL.refl (H : Hp) : NL H H := fun _ _ e _ => e
theorem NL.trans {H H1 H2 : Hp} (p : NL H H1) (q : NL H1 H2) : NL H H2 := fun a o e n => q a o (p a o e n) n
theorem nl_same {H H' : Hp} (s : Same H H') : NL H H' := fun a o e _ => s a o e
theorem nl_lset {H : Hp} {a : Addr} {xs ys : List V} (h : H a = some (.lst xs)) : NL H (upd H a (.lst ys)) := fun b o e n => by
  rw [upd_ne (fun z => by rw [z, h] at e; exact n xs (Option.some.inj e).symm)]; exact e
end LX
set_option maxHeartbeats 2000000
namespace LX
open PySem PySem.Spec PyProof.Rows L2 C8 SX
section
variable {X : Cx} {k j : Nat} {C : Addr} {sp : Sp}
theorem met_run0 {mth : Str} {pins : List (Addr × Obj)} {σ : L2.St} {H : Hp} {s : Shared} {A : Around} {a : Addr} {Q : Value → Shared → Prop} (c : Met X.prog X.w X.K X.mg X.base k C mth sp []) (hr : Room k A) (hfr : A.frames = X.A.frames) (I : Inv X pins σ H s)
    {R : VK} (hsp : sp [.ref a] H R C8.E0) (hQ : ∀ v z H' s', Inv X pins σ H' s' → RelV z v → R z H' → Q v s') :
    ∃ f, PySem.W.findIn X.K (.ref C) mth = some (some (.ref f)) ∧ PySem.W.isFn X.K (.ref f) = true ∧ wpAny (model X.prog X.w) A (call (.ref f) [.ref a]) Q X.xe s := by
  obtain ⟨f, fd, ps, ds, hc, hm, F, hb, hd⟩ := c.ex
  refine ⟨f, hm.at_, hm.fn, ?_⟩
  have e0 : Env0 X.prog X.w X.K X.mg X.base A X.stack s H := by
    have e := I.env0
    exact ⟨by rw [hfr]; exact e.frames, e.mod, e.bs, e.bsz, e.funs, e.frf, e.hok, e.bare⟩
  have hds : ds = [] := by cases hd; rfl
  subst hds
  have hl := F.len _ _ _ _ hsp
  have r2 : Vals [V.ref a] [Value.ref a] := .cons rfl .nil
  refine wpAny_call (codeAny_mono (F.run A X.stack s H ⟨[.ref a], []⟩ [.ref a] [.ref a] _ C8.E0 hr e0 (by
    have := hb s [.ref a] I.kIn (by simpa using hl)
    simpa using this) r2 hsp) fun r s' hq => ?_)
  cases r with
  | error e => exact C8.pass0 (E := C8.E0) pins σ H s e s' I hq
  | ok fl =>
    cases fl with
    | ret w =>
      obtain ⟨z, H', I', rz, q⟩ := I.after hq
      exact hQ w z H' s' I' rz q
    | next => exact False.elim hq
    | brk => exact False.elim hq
    | cont => exact False.elim hq
theorem call_strI (c : Met X.prog X.w X.K X.mg X.base k C "__str__" sp []) (hr : Room j X.A) (hk : k + 2 ≤ j) : CallR X (.type "str") (fun xs H Q => ∃ a dx fs, xs = [.ref a] ∧ H a = some (.ins C dx fs) ∧ sp [.ref a] H (fun v H' => ∃ z, v = .str z ∧ Q (.str z) H') C8.E0) := by
  intro pins s σ H xs us Q I rel want
  obtain ⟨a, dx, fs, rfl, ha, hsp⟩ := want
  obtain ⟨u, rfl, ru⟩ := vals1 rel
  cases ru
  obtain ⟨mA, J, _⟩ := ins_get I.hok ha
  obtain ⟨od, J, _⟩ := J.look
  have r2 : Room k X.A.in1.in1 := (hr.mono hk).in1.in1
  obtain ⟨f, hs, hf, hw⟩ := met_run0 (A := X.A.in1.in1) (Q := PySem.W.StrBack (EP X pins σ Q)) c r2 rfl I hsp (fun v z H' s' I' rz q => by
    obtain ⟨y, rfl, q⟩ := q
    obtain ⟨t, rfl⟩ := rz
    exact ⟨.str y, H', I', ⟨t, rfl⟩, q⟩)
  exact PySem.W.kso_call r2.units0 I.kIn J hs hf hw
end
end LX
set_option maxHeartbeats 4000000
namespace LX
open PySem PySem.Spec PyProof.Rows L2 C8 SX
abbrev NoCode : Obj := { cls := .none, data := .fields #[] }
abbrev ListO (vs : List Value) : Obj := { cls := .type "list", data := .seq vs.toArray }
structure Tabbing (K : PySem.W.Frag) (mg : Str → Option Value) (h : Heap) (tt : List (Addr × Addr)) : Prop where
  empty : ∀ p ∈ tt, h.get? p.2 = some NoCode
  loose : ∀ p ∈ tt, K.lookup p.2 = none
  code : ∀ p ∈ tt, PySem.W.CodeHd h p.1 p.2
  bm : ∃ (m : Addr) (o : Obj), mg "__builtins__" = some (.ref m) ∧ m ≠ builtinsNs ∧ h.get? m = some o ∧ o.cls = .type "module" ∧ o.dict = some builtinsNs ∧ o.data = .plain
section
variable {P : Program} {w : World} {K : PySem.W.Frag} {mg mb : Str → Option Value} {k : Nat} {fa a : Addr} {fd : FuncData} {x : Str} {sp : Sp} {s : Shared} {vs : List Value} {ns : List Int} {tt : List (Addr × Addr)}
theorem lawGT_at {H : Hp} (tb : Tabbing K mg s.heap tt) (KX : K.In s.heap) (names : s.heap.Ns mainGlobals mg) (bnames : s.heap.Ns builtinsNs mb) (boot : ∀ x : Str, x ≠ "__name__" → mb x = bootBuiltins x) (lim : s.heap.NoLimit) (gens : s.gens = #[])
    (script : s.heap.get? a = some (ListO vs)) (room : Room k callerA) (F : ∀ base : Heap, K.In base → base.Ns mainGlobals mg → (∀ p ∈ tt, LamX.TabB base mg p.1 p.2) → FnG P w K mg base k fa fd [x] sp)
    (binds : ∀ (s : Shared) (u : Value), BindsTo s fd ⟨[u], []⟩ [(x, u)]) (want : sp [.ref a] H (fun v _ => v = .bl true) C8.E0) (ok : HOk P w H s.heap) (tabs : ∀ p ∈ tt, H p.2 = some (.tbl #[]))
    (here : ∀ b u, H b = some u → (b = a ∧ ∃ o xs, u = .frz o (.lst xs)) ∨ ∃ p ∈ tt, p.2 = b) (notK : H a ≠ none → K.lookup a = none) :
    codeAny (model P w) callerA (.call (.ref fa) ⟨[.ref a], []⟩) (fun r s' => Done s s' r) s := by
  have off_script : ∀ p ∈ tt, p.2 ≠ a := fun p hp e => by
    have q := tb.empty p hp
    rw [e, script] at q
    have q2 : Data.seq vs.toArray _ = Data.fields #[] := congrArg Obj.data (Option.some.inj q)
    cases q2
  have clear_of : ∀ {b : Addr} {o : Obj}, s.heap.get? b = some o → o ≠ ListO vs → o ≠ NoCode → H b = none := fun {b o} e n1 n2 => by
    cases q : H b with
    | none => rfl
    | some u =>
      rcases here b u q with ⟨rfl, _⟩ | ⟨p, hp, rfl⟩
      · rw [script] at e; exact absurd (Option.some.inj e).symm n1
      · rw [tb.empty p hp] at e; exact absurd (Option.some.inj e).symm n2
  have see : ∀ {b : Addr} {o : Obj}, s.heap.get? b = some o → o ≠ ListO vs → o ≠ NoCode → (hidT s.heap H).get? b = some o := fun e n1 n2 => hidT_get e (clear_of e n1 n2)
  have names_see : ∀ {b : Addr} {m : Str → Option Value}, s.heap.Ns b m → (hidT s.heap H).Ns b m := fun {b m} ⟨o, es, ep, e, d, r⟩ =>
    ⟨o, es, ep, see e (fun z => by rw [z] at d; cases d) (fun z => by rw [z] at d; cases d), d, r⟩
  have KH : K.In (hidT s.heap H) := fun b o e => hidT_get (KX b o e) (by
    cases q : H b with
    | none => rfl
    | some u =>
      rcases here b u q with ⟨rfl, _⟩ | ⟨p, hp, rfl⟩
      · rw [notK (by rw [q]; simp)] at e; cases e
      · rw [tb.loose p hp] at e; cases e)
  have md : Mod K mg (hidT s.heap H) := by
    obtain ⟨mc, c1, c2⟩ := lim
    exact ⟨KH, names_see names, ⟨mb, names_see bnames, boot⟩, mc, names_see c1, c2⟩
  have based : ∀ p ∈ tt, LamX.TabB (hidT s.heap H) mg p.1 p.2 := fun p hp => by
    have none_at : ∀ {o : Obj}, s.heap.get? p.2 = some o → o = NoCode := fun e => by rw [tb.empty p hp] at e; exact (Option.some.inj e).symm
    constructor
    · obtain ⟨o, us, fl, t1, fg, t2, bf, tx, t3, e, cls, dat, at11, rest⟩ := tb.code p hp
      exact ⟨o, us, fl, t1, fg, t2, bf, tx, t3, see e (fun z => by rw [z] at dat; cases dat) (fun z => by rw [z] at dat; cases dat; simp at at11), cls, dat, at11, rest⟩
    · obtain ⟨m, o, named, apart, e, cls, dct, dat⟩ := tb.bm
      refine ⟨m, o, named, apart, fun z => ?_, fun z => ?_, see e (fun z => by rw [z] at dat; cases dat) (fun z => by rw [z] at dat; cases dat), cls, dct, dat⟩
      · obtain ⟨o2, es, ep, e2, d2, _⟩ := names
        rw [z, e2] at e
        cases e
        rw [d2] at dat
        cases dat
      · rw [z] at e
        rw [none_at e] at dat
        cases dat
    · intro z
      obtain ⟨o2, es, ep, e2, d2, _⟩ := names
      rw [z] at e2
      rw [none_at e2] at d2
      cases d2
  have e0 : Env0 P w K mg (hidT s.heap H) callerA [] s H := ⟨rfl, md, fun _ _ e => of_hidT e, Nat.le_of_eq (hidT_size _ _), trivial, fun _ hm => absurd hm (List.not_mem_nil), ok, .of_eq gens⟩
  refine codeAny_mono ((F _ KH (names_see names) based).goes callerA [] s H ⟨[.ref a], []⟩ [.ref a] [.ref a] _ _ rfl room e0 (binds s (.ref a)) (.cons rfl .nil) want) fun r t got => ?_
  match r, got with
  | .ok (.ret u), got =>
    obtain ⟨v, H2, os, bare, un, ok2, rel, is_true⟩ := got
    obtain rfl : v = V.bl true := is_true
    obtain rfl : u = Value.bool true := rel
    have stays : ∀ b o, (∀ p ∈ tt, p.2 ≠ b) → s.heap.get? b = some o → t.heap.get? b = some o := fun b o away e => by
      cases q : H b with
      | none => exact un.keep b o e q (fun z => absurd z List.not_mem_nil) (by simp)
      | some u =>
        rcases here b u q with ⟨_, ob, xs, rfl⟩ | ⟨p, hp, z⟩
        · obtain ⟨e1, _⟩ := ok b _ q
          obtain ⟨e2, _⟩ := ok2 b _ (un.frzs b ob _ q)
          rw [e] at e1
          cases e1
          exact e2
        · exact absurd z (away p hp)
    have more : ∀ p ∈ tt, ∃ us : Array Value, t.heap.get? p.2 = some { cls := .none, data := .fields us } := fun p hp => by
      obtain ⟨us, z⟩ := un.tbls p.2 #[] (tabs p hp)
      exact ⟨_, ok2 p.2 _ z⟩
    refine ⟨rfl, ⟨fun b o e => ?_, fun b o e => ?_⟩, os, bare⟩
    · by_cases q : ∃ p ∈ tt, p.2 = b
      · obtain ⟨p, hp, rfl⟩ := q
        obtain ⟨us, eu⟩ := more p hp
        have e1 := tb.empty p hp
        rw [e] at e1
        cases e1
        exact .inr (.inl ⟨((tb.code p hp).tab (tb.empty p hp)).isCodeTable, rfl, #[], us, rfl, by rw [Array.empty_append]; exact eu⟩)
      · exact .inl (stays b o (fun p hp z => q ⟨p, hp, z⟩) e)
    · by_cases q : ∃ p ∈ tt, p.2 = b
      · obtain ⟨p, hp, rfl⟩ := q
        obtain ⟨us, eu⟩ := more p hp
        exact ⟨_, eu⟩
      · exact ⟨o, stays b o (fun p hp z => q ⟨p, hp, z⟩) e⟩
open Classical in
theorem lawGT_call (tb : Tabbing K mg s.heap tt) (KX : K.In s.heap) (names : s.heap.Ns mainGlobals mg) (bnames : s.heap.Ns builtinsNs mb) (boot : ∀ x : Str, x ≠ "__name__" → mb x = bootBuiltins x) (lim : s.heap.NoLimit) (gens : s.gens = #[])
    (script : s.heap.get? a = some (ListO vs)) (nums : IntsAre vs ns) (few : ns.length ≤ sizeLine) (room : Room k callerA) (F : ∀ base : Heap, K.In base → base.Ns mainGlobals mg → (∀ p ∈ tt, LamX.TabB base mg p.1 p.2) → FnG P w K mg base k fa fd [x] sp)
    (binds : ∀ (s : Shared) (u : Value), BindsTo s fd ⟨[u], []⟩ [(x, u)]) (want : ∀ H : Hp, (∀ p ∈ tt, H p.2 = some (.tbl #[])) → SqL K H a (ns.map V.int) → sp [.ref a] H (fun v _ => v = .bl true) C8.E0) :
    codeAny (model P w) callerA (.call (.ref fa) ⟨[.ref a], []⟩) (fun r s' => Done s s' r) s := by
  have rel := vals_ints nums
  have isT : ∀ b, (∃ p ∈ tt, p.2 = b) → s.heap.get? b = some NoCode := fun b ⟨p, hp, e⟩ => e ▸ tb.empty p hp
  let T : Hp := fun b => if ∃ p ∈ tt, p.2 = b then some (.tbl #[]) else none
  have T_in : ∀ {b u}, T b = some u → (∃ p ∈ tt, p.2 = b) ∧ u = .tbl #[] := fun {b u} z => by
    by_cases q : ∃ p ∈ tt, p.2 = b
    · exact ⟨q, (Option.some.inj ((if_pos q).symm.trans z)).symm⟩
    · cases (if_neg q).symm.trans z
  have T_at : ∀ p ∈ tt, T p.2 = some (.tbl #[]) := fun p hp => if_pos ⟨p, hp, rfl⟩
  have a_off : ¬ ∃ p ∈ tt, p.2 = a := fun q => by
    have z := isT a q
    rw [script] at z
    have z2 : Data.seq vs.toArray _ = Data.fields #[] := congrArg Obj.data (Option.some.inj z)
    cases z2
  have T_ok : HOk P w T s.heap := fun b u z => by
    obtain ⟨q, rfl⟩ := T_in z
    exact isT b q
  cases own : K.lookup a with
  | some o =>
    have e := KX a o own
    rw [script] at e
    cases e
    exact lawGT_at tb KX names bnames boot lim gens script room F binds (want T T_at (.inr ⟨_, vs.toArray, _, own, rfl, rfl, rfl, by rw [List.size_toArray, nums.length]; exact few, by simpa using rel⟩)) T_ok T_at (fun b u z => .inr (T_in z).1)
      fun z => absurd (if_neg a_off : T a = none) z
  | none =>
    let one : HO := .frz (ListO vs) (.lst (ns.map V.int))
    let H : Hp := fun b => if b = a then some one else T b
    have at_a : H a = some one := if_pos rfl
    have off : ∀ {b}, b ≠ a → H b = T b := fun n => if_neg n
    refine lawGT_at tb KX names bnames boot lim gens script room F binds (want H (fun p hp => (off fun z => a_off ⟨p, hp, z⟩).trans (T_at p hp)) (.inl (.inr ⟨_, at_a⟩))) (fun b u z => ?_) (fun p hp => (off fun z => a_off ⟨p, hp, z⟩).trans (T_at p hp)) (fun b u z => ?_) fun _ => own
    · by_cases e : b = a
      · subst e
        rw [at_a] at z
        cases z
        exact ⟨script, by rw [List.length_map]; exact few, vs, _, rel, script⟩
      · rw [off e] at z
        obtain ⟨q, rfl⟩ := T_in z
        exact isT b q
    · by_cases e : b = a
      · subst e
        rw [at_a] at z
        exact .inl ⟨rfl, _, _, (Option.some.inj z).symm⟩
      · rw [off e] at z
        exact .inr (T_in z).1
end
theorem walkGT {l : PySem.W.OpenLaw} {n k : Nat} {q : Program} {loose : List Str} {XP : (Str → Option Value) → Heap → Prop} {YP : World → Heap → Prop} {d : DefRec} {K : Params → PySem.W.Frag} {sp : PySem.W.Frag → List (Addr × Addr) → Sp} {x : Str} (hn : l.most = some n) (hn2 : n ≤ sizeLine)
    (hdf : d.params.defaults = []) (room : Room k callerA) (hY : ∀ (w : World) (h : Heap), YP w h → (K w.params).In h)
    (F : ∀ (w : World) (mg : Str → Option Value) (fa : Addr) (h : Heap), (K w.params).In h → h.Ns mainGlobals mg → mg d.name = some (.ref fa) →
      ∃ (fd : FuncData) (tt : List (Addr × Addr)), (∀ p ∈ tt, (∃ (nm : Str) (e : DefRec), PySem.W.tabIn (K w.params) nm = some p ∧ (recsOf q).find? (fun e => e.name == nm) = some e) ∧ (K w.params).lookup p.2 = none) ∧
        (∀ (s : Shared) (u : Value), BindsTo s fd ⟨[u], []⟩ [(x, u)]) ∧ ∀ base : Heap, (K w.params).In base → base.Ns mainGlobals mg → (∀ p ∈ tt, LamX.TabB base mg p.1 p.2) → FnG l.prog w (K w.params) mg base k fa fd [x] (sp (K w.params) tt))
    (want : ∀ (K : PySem.W.Frag) (tt : List (Addr × Addr)) (H : Hp) (a : Addr) (ns : List Int), ns.length ≤ n → (∀ p ∈ tt, H p.2 = some (.tbl #[])) → SqL K H a (ns.map V.int) → sp K tt [.ref a] H (fun v _ => v = .bl true) C8.E0) : PySem.W.WalkO q loose XP YP l.row.toRowW d [] (fun f vs => PySem.call f vs) := by
  refine Att.attach_call hn hdf ?_
  intro w s0 s1 mg mb fa o pm cd doc a vs ns G Y _ _ _ named list_ nums few gens
  have KX := hY w _ Y
  obtain ⟨fd, tt, ht, bd, F1⟩ := F w mg fa _ KX G.T.g named
  have tb : Tabbing (K w.params) mg s1.heap tt := ⟨fun p hp => let ⟨⟨nm, e, t1, r1⟩, _⟩ := ht p hp; (PySem.W.tab_of G.T KX r1 t1).2, fun p hp => (ht p hp).2, fun p hp => let ⟨⟨nm, e, t1, r1⟩, _⟩ := ht p hp; (PySem.W.tab_of G.T KX r1 t1).1, G.T.bmain⟩
  exact lawGT_call tb KX G.T.g G.T.b G.T.builtins G.T.nolimit gens list_ nums (Nat.le_trans few hn2) room F1 bd fun H ht hs => want _ _ H a ns few ht hs
end LX
set_option maxHeartbeats 1000000
namespace LX
open PySem PySem.Spec PyProof.Rows L2 C8 SX
section
variable {X : Cx} {K : PySem.W.Frag} {H : Hp}
def inz (xs : List Int) : List V := xs.map V.int
theorem inz_len (xs : List Int) : (inz xs).length = xs.length := List.length_map ..
theorem dp_inz : ∀ xs : List Int, DpAll K H (inz xs) (xs.map PyData.int)
  | [] => .nil
  | x :: xs => .cons (.int _) (dp_inz xs)
theorem lay_inz : ∀ xs : List Int, PyData.canLayAll0 (xs.map PyData.int) = true ∧ PyData.depthAll (xs.map PyData.int) ≤ 1
  | [] => ⟨rfl, Nat.zero_le _⟩
  | x :: xs => by
    obtain ⟨h1, h2⟩ := lay_inz xs
    refine ⟨?_, ?_⟩
    · show (PyData.canLay0 (.int x) && PyData.canLayAll0 (xs.map PyData.int)) = true
      rw [h1, Bool.and_true]; rfl
    · show max (PyData.depth (.int x)) (PyData.depthAll (xs.map PyData.int)) ≤ 1
      have e : PyData.depth (.int x) ≤ 1 := Nat.zero_le _
      omega
theorem shaped_inz (xs : List Int) : SeqAt.shaped (.list (xs.map PyData.int)) = true := by
  obtain ⟨h1, h2⟩ := lay_inz xs
  show (PyData.canLayAll0 _ && decide (PyData.depthAll _ + 1 ≤ 64)) = true
  rw [h1, Bool.true_and, decide_eq_true_eq]; omega
def rNeE : R2 := fun x y H Q => ∃ (a b : Addr) (xs : List Int), x = .ref a ∧ y = .ref b ∧ H a = some (.lst (inz xs)) ∧ H b = some (.lst []) ∧ Q (.bl (!xs.isEmpty)) H
theorem op_neE {k : Nat} (hr : Room k X.A) : OpR X (compareOp .NotEq) rNeE := by
  intro pins s σ H x y v u Q I rx ry h
  obtain ⟨a, b, xs, rfl, rfl, ha, hb, q⟩ := h
  refine op_neD hr.units pins s σ H _ _ v u Q I rx ry ⟨_, _, .lst (SqL.of ha) (dp_inz xs), .lst (SqL.of hb) .nil, shaped_inz xs, shaped_inz [], ?_⟩
  cases xs with
  | nil => exact q
  | cons x xs => exact q
theorem at_last {xs : List V} {v : V} (h : 0 < xs.length) (e : xs[xs.length - 1]? = some v) : atI xs (-1) = some v := by
  have : ixN xs.length (-1) = some (xs.length - 1) := by
    unfold ixN
    rw [if_neg (by decide), if_pos (by omega)]
    congr 1; omega
  unfold atI
  rw [this]; exact e
def SeqV (K : PySem.W.Frag) (H : Hp) (x : V) (ys : List V) : Prop :=
  (∃ p, x = .ref p ∧ (SqL K H p ys ∨ SqT K H p ys)) ∨ ∃ l : List Nat, x = .str (S l) ∧ l.length ≤ sizeLine ∧ ys = l.map fun c => V.str (S [c])
def rLenA (K : PySem.W.Frag) : List V → Hp → VK → Prop := fun xs H Q => ∃ x ys, xs = [x] ∧ SeqV K H x ys ∧ Q (.int ys.length) H
theorem lenA (K : PySem.W.Frag) (h : X.K = K := by rfl) : CallR X (.builtin "len") (rLenA K) := by
  subst h
  intro pins s σ H xs us Q I r q
  obtain ⟨x, ys, rfl, hh, q⟩ := q
  rcases hh with ⟨p, rfl, hp⟩ | ⟨l, rfl, hl, rfl⟩
  · exact lenK X.K rfl pins s σ H _ us Q I r ⟨p, ys, rfl, hp, q⟩
  · refine call_len_str pins s σ H _ us Q I r ⟨S l, rfl, by rw [S_len]; exact hl, ?_⟩
    rw [S_len]
    rw [List.length_map] at q
    exact q
def rIxA (K : PySem.W.Frag) : R2 := fun x y H Q => ∃ ys i v, y = .int i ∧ SeqV K H x ys ∧ atI ys i = some v ∧ Q v H
theorem ixA (K : PySem.W.Frag) (h : X.K = K := by rfl) : IxR X (rIxA K) := by
  subst h
  intro value slice pins s σ H x y v u Q I rx ry q hs
  obtain ⟨ys, i, w, rfl, hh, ha, q⟩ := q
  refine ix_seq value slice pins s σ H x (.int i) v u Q I rx ry ?_ hs
  rcases hh with ⟨p, rfl, hp | hp⟩ | ⟨l, rfl, hl, rfl⟩
  · exact .inl ⟨p, ys, i, w, rfl, rfl, hp, ha, q⟩
  · exact .inr (.inl ⟨p, ys, i, w, rfl, rfl, hp, ha, q⟩)
  · have e : ∀ j, (l.map fun c => V.str (S [c]))[j]? = (l[j]?).map fun c => V.str (S [c]) := fun j => List.getElem?_map ..
    have e2 : atI l i = none ∧ w = w ∨ ∃ c, atI l i = some c ∧ w = .str (S [c]) := by
      unfold atI at ha ⊢
      rw [List.length_map] at ha
      cases hx : ixN l.length i with
      | none => rw [hx] at ha; cases ha
      | some j =>
        rw [hx] at ha
        have ha : (l.map fun c => V.str (S [c]))[j]? = some w := ha
        rw [e] at ha
        cases hc : l[j]? with
        | none => rw [hc] at ha; cases ha
        | some c => rw [hc] at ha; exact .inr ⟨c, hc, (Option.some.inj ha).symm⟩
    rcases e2 with ⟨e3, _⟩ | ⟨c, e3, rfl⟩
    · exfalso
      unfold atI at ha e3
      rw [List.length_map] at ha
      cases hx : ixN l.length i with
      | none => rw [hx] at ha; cases ha
      | some j =>
        rw [hx] at ha e3
        have ha : (l.map fun c => V.str (S [c]))[j]? = some w := ha
        have e3 : l[j]? = none := e3
        rw [e, e3] at ha; cases ha
    · exact .inr (.inr ⟨S l, i, c, rfl, rfl, by rw [S_len]; exact hl, e3, q⟩)
theorem le1000 {n : Nat} (h : n ≤ 1000) : n ≤ sizeLine := Nat.le_trans h (by decide)
theorem inz_get {cs : List Int} {i : Nat} {x : V} (h : (inz cs)[i]? = some x) : ∃ z, cs[i]? = some z ∧ x = .int z := by
  unfold inz at h
  rw [List.getElem?_map] at h
  cases q : cs[i]? with
  | none => rw [q] at h; cases h
  | some l => rw [q] at h; exact ⟨l, rfl, (Option.some.inj h).symm⟩
theorem inz_of : ∀ {ys : List V}, (∀ (j : Nat) y, ys[j]? = some y → ∃ z : Int, y = .int z) → ∃ cs : List Int, ys = inz cs
  | [], _ => ⟨[], rfl⟩
  | y :: ys, h => by
    obtain ⟨z, rfl⟩ := h 0 y rfl
    obtain ⟨cs, rfl⟩ := inz_of (ys := ys) fun j z q => h (j + 1) z q
    exact ⟨z :: cs, rfl⟩
theorem nxt {D : Ends} {σ : L2.St} {H : Hp} (h : D.nx σ H) : tNext D σ H := h
end
end LX
set_option maxHeartbeats 2000000
namespace LX
open PySem PySem.Spec PyProof.Rows L2 C8 SX
def tDisp1T (tk tv : TE) : TE := fun σ H Q => ∀ p, H p = none → tk σ (upd H p (.dT [])) fun x H1 => tv σ H1 fun y H2 => ∃ (b : Addr) (k : List Key), x = .ref b ∧ H2 b = some (.tup (k.map kV)) ∧ H2 p = some (.dT []) ∧ Q (.ref p) (upd H2 p (.dT [(k, y)]))
theorem pe_disp1T {X : Cx} {k v : Expr} {pos : Pos} {tk tv : TE} (hu : X.A.units + 1 < cLine) (hk : PE X k tk) (hv : PE X v tv) : PE X (.Dict [some k] [v] pos) (tDisp1T tk tv) := by
  refine ⟨fun pins s σ H Q I q => ?_⟩
  have hn := I.hok.fresh (Nat.le_refl s.heap.objs.size)
  have I1 := I.laid (a := s.heap.objs.size) (o := .dT []) (h' := s.heap.push { cls := .type "dict", data := .dict #[] }) (t' := s.toks) (fun _ _ q => Heap.get?_push_of_some _ q) (Nat.le_refl _) (dt_empty s.heap I.big)
  have hs := zip_pairTrees [some k] [v] X.env pos rfl rfl
  rw [arm_eval_Dict, hs, dictDisplay_pairs (pairTrees [some k] [v] X.env pos) (by intro h; cases h) (by show 1 < 17; decide)]
  refine wpAny_bind (wpAny_standAt (wpAny_bind ?_))
  unfold subDict
  refine wpAny_bind (wpAny_alloc ?_)
  refine wpAny_bind (wpAny_holding ?_)
  rw [if_pos (show (pairTrees [some k] [v] X.env pos).length ≤ 15 by show 1 ≤ 15; decide)]
  refine wpAny_bind (pairTrees_cons_walk (thn (hk.run pins _ σ _ _ I1 (q _ hn)) fun u s1 ⟨x, H1, I1', rx, q1⟩ => thn (hv.run pins s1 σ H1 _ I1' q1) fun w2 s2 ⟨y, H2, I2, ry, b, key, ex, eb, ep, q2⟩ => pairTrees_nil_walk ?_))
  subst ex
  obtain rfl : u = Value.ref b := rx
  obtain ⟨z, hd, xs, rel, dd⟩ := dt_of I2.hok ep
  refine wpAny_holding ?_
  refine wpAny_bind ?_
  rw [List.forIn_cons]
  refine wpAny_bind (wpAny_bind ?_)
  have hu0 : (tupleKind (mixKind X.prog X.w)).room X.A := Nat.lt_of_succ_lt hu
  refine wpAny_dictSet_heap (hsz := by rw [← Paired.length rel]; exact z) hu0 (key_of I2.hok eb) dd fun h' dd' hs' => ?_
  refine wpAny_pure ?_
  show wpAny _ _ (forIn ([] : List (Value × Value)) PUnit.unit _) _ _ _
  rw [List.forIn_nil]
  refine wpAny_pure (wpAny_pure (wpAny_pure (wpAny_pure ?_)))
  obtain ⟨qo, es, ep2, hq, h2, h3, h4, _, h5⟩ := dd'
  refine ⟨.ref s.heap.objs.size, upd H2 s.heap.objs.size (.dT [(key, y)]), ?_, rfl, q2⟩
  refine d_write I2 (by rw [ep]; exact True.intro) hs' ⟨qo, hq⟩ ⟨by show 1 ≤ sizeLine; decide, hd, _, (rel.put key eb ry).keeps fun c ys ec => ?_, qo, es, ep2, hq, h2, h3, h4, h5⟩
  rw [upd_ne (ne_of ec ep (fun z => nomatch z))]
  exact ec
end LX
set_option maxHeartbeats 2000000
namespace LX
open PySem PySem.Spec PyProof.Rows L2 C8 SX NdefX
def CellO (c : Addr) (v : V) : HO := .ext fun h => ∃ u, RelV v u ∧ h.IsCell c (some u)
theorem cellO_ok {P : Program} {w : World} {H : Hp} {h : Heap} {c : Addr} {v : V} {u : Value} (r : RelV v u) (e : h.IsCell c (some u)) : ObjOk P w H h c (CellO c v) :=
  ⟨⟨u, r, e⟩, let ⟨o, ho, _⟩ := e; ⟨o, ho⟩, fun _ _ ⟨u', r', o, q, z⟩ k => ⟨u', r', o, k o q, z⟩⟩
theorem cellO_at {P : Program} {w : World} {H : Hp} {h : Heap} {c : Addr} {v : V} (x : HOk P w H h) (e : H c = some (CellO c v)) : ∃ u, RelV v u ∧ h.IsCell c (some u) := by
  have q : ObjOk P w H h c (.ext fun h => ∃ u, RelV v u ∧ h.IsCell c (some u)) := x c _ e
  exact q.1
theorem cellO_tup {c : Addr} {v : V} {xs : List V} : CellO c v ≠ .tup xs := fun z => by
  have z' : HO.ext _ = HO.tup xs := z
  cases z'
theorem cellO_own {c x : Addr} {v : V} : CellO c v ≠ .own x := fun z => by
  have z' : HO.ext _ = HO.own x := z
  cases z'
theorem cellO_frz {c : Addr} {v : V} {o : Obj} {u : HO} : CellO c v ≠ .frz o u := fun z => by
  have z' : HO.ext _ = HO.frz o u := z
  cases z'
theorem cellO_tbl {c : Addr} {v : V} {ps : Array Value} : CellO c v ≠ .tbl ps := fun z => by
  have z' : HO.ext _ = HO.tbl ps := z
  cases z'
theorem calE {P : Program} {w : World} {K : PySem.W.Frag} {mg : Str → Option Value} {base : Heap} {x y : Str} {st s0 : Stmt} {e0 : Expr} {p0 : Pos} {i : Nat} {f : Addr} {fd : FuncData} {N ps : List Str} {ds : List Value} {dvs : List V} {k : Nat} {sp : Sp} {cdv : Value} (F : C8.Def K mg x st f fd) (hc : fd.code = cdv) (b : Binds K fd ps ds) (d : Vals dvs ds) (S : FnScope N ps (C8.fnScope st)) (len : ∀ vs H Q E, sp vs H Q E → vs.length = ps.length)
    (hst : C8.fnBody st = [s0, .Return (some e0) p0]) (hi : N[i]? = some y) (hy : (C8.fnScope st).names.lookup y = some .cell)
    (hbody : ∀ (A : Around) (outer : List Env) (s : Shared) (H : Hp) (vs : List V) (Q : VK) (E : XK), Room k (A.deeper (envOfC x (C8.fnScope st) s.heap.objs.size f cdv)) → sp vs H Q E →
      ∃ t te, PS (cxOf C8.CX0 P w K mg base N x (C8.fnScope st) f cdv A outer s H E).nox s0 t ∧ PE (cxOf C8.CX0 P w K mg base N x (C8.fnScope st) f cdv A outer s H E).nox e0 te ∧
        t { nx := fun σ H' => te σ H' fun v H2 => ∃ w0, σ[i]? = some (some w0) ∧ ∀ c, (cellsFrom (s.heap.objs.size + 1) (C8.fnScope st).names []).lookup y = some c → H2 c = none → H c = none → Q v (upd H2 c (CellO c w0)), rt := fun _ _ => False } (start N vs) H) : C8.Cal P w K mg base (k + 1) x sp dvs := by
  refine ⟨f, fd, ps, ds, ?_, F.mgf, F.kp, b, d⟩
  obtain ⟨oc, od, dV, kV, doc, pm, an, cdv', ct, osl, rfl, lk, hcd⟩ := F.fn.ex
  obtain rfl : cdv' = cdv := hc
  refine ⟨len, fun A outer s H args us vs Q E hr e1 hb r hsp => ?_⟩
  have hl := len _ _ _ _ hsp
  have KX : K.In s.heap := e1.mod.kin.keeps fun b o e => (e1.bs b o e).1
  have lim : s.heap.NoLimit := e1.mod.nolimit.keeps fun b o e => (e1.bs b o e).1
  have hkind : ∀ y ∈ ps.zip us, (C8.fnScope st).names.lookup y.1 = some .local ∨ ((C8.fnScope st).names.lookup y.1 = some .cell ∧ ((cellsFrom (s.heap.objs.size + 1) (C8.fnScope st).names []).lookup y.1).isSome = true) := fun ⟨n, v⟩ hy => by
    rcases S.par n (List.of_mem_zip hy).1 with q | q
    · exact .inl q
    · exact .inr ⟨q, PySem.W.cellsFrom_some _ _ _ (.inl q)⟩
  refine codeAny_call_function hr.depth (KX _ _ lk) rfl S.co S.gen rfl (PySem.W.codeRec_of KX hcd) (hb _ _ _ _ ?_)
  refine wpAny_newFunctionEnv_cells S.kind hkind fun env he s1 xx => ?_
  subst he
  refine ⟨lim.keeps xx.toInCall.keep, codeAny_func ?_⟩
  obtain ⟨t, te, ht, hte, hq⟩ := hbody A outer s H vs Q E (hr.deeper _) hsp
  have I : Inv (cxOf C8.CX0 P w K mg base N x (C8.fnScope st) f cdv' A outer s H E) [] (start N vs) H s1 := inv_start S hr.hd e1 hl r xx
  obtain ⟨c0, hc0⟩ := cell_has (n := s.heap.objs.size + 1) hy
  have ht' : PS (cxOf C8.CX0 P w K mg base N x (C8.fnScope st) f cdv' A outer s H E) s0 t := ⟨fun pins s σ H D I hw => wpAny_mono (ht.run pins s σ H D (I.wish _) hw) (fun _ _ q => q.unwish) fun _ _ z => False.elim z⟩
  have hte' := hte.nox
  show wpAny _ _ (execs (C8.fnBody st) _) _ _ _
  rw [hst]
  refine wpAny_execs_cons (wpAny_mono (ht'.run [] s1 (start N vs) H _ I hq) (fun fl s' hs => ?_) fun e s' hs => hs)
  cases fl with
  | ret u =>
    obtain ⟨_, _, _, _, _, q⟩ := hs
    exact False.elim q
  | brk =>
    obtain ⟨_, _, _, q⟩ := hs
    exact False.elim q
  | cont =>
    obtain ⟨_, _, _, q⟩ := hs
    exact False.elim q
  | next =>
    obtain ⟨σ', H', J, q⟩ := hs
    refine wpAny_execs_cons (wpAny_Return_some (wpAny_mono (hte'.run [] s' σ' H' _ J q) (fun u s2 hu => ?_) fun e s' hs => hs))
    obtain ⟨v, H2, J2, rv, w0, hw, hQ⟩ := hu
    have hcN : H2 c0 = none := J2.freeC y c0 hc0
    have hge : s.heap.objs.size ≤ c0 := Nat.le_of_lt (xx.above y c0 (PySem.mem_of_lookup hc0))
    have hHc : H c0 = none := e1.hok.fresh hge
    have hsc : s.heap.get? c0 = none := Heap.get?_none_of_le hge
    obtain ⟨m, _, hloc⟩ := J2.loc
    obtain ⟨u0, ru, hlook⟩ := hloc i y w0 hi hw (.inr (.inl hy))
    have hcell : s2.heap.IsCell c0 (some u0) := by
      rcases hlook with ⟨hk, _⟩ | ⟨_, c, ec, hcell⟩
      · have hk : (C8.fnScope st).names.lookup y = some .local := hk
        rw [hy] at hk; cases hk
      · have ec : (cellsFrom (s.heap.objs.size + 1) (C8.fnScope st).names []).lookup y = some c := ec
        rw [hc0] at ec; cases ec
        exact hcell
    have B : Un (frs outer) [] H H2 s.heap s2.heap := J2.base
    have ne : ∀ b o, s.heap.get? b = some o → b ≠ c0 := fun b o e z => by rw [z, hsc] at e; cases e
    refine ⟨v, upd H2 c0 (CellO c0 w0), J2.os, J2.bare, ⟨B.keep, B.slot, fun b o e n hx => by rw [upd_ne (ne b o e)]; exact B.free b o e n hx, B.there, fun b xs e => ?_, fun b o u e => ?_, fun b ps e => ?_⟩, J2.hok.laidN (fun _ _ q => q) hcN (cellO_ok ru hcell), rv, hQ c0 hc0 hcN hHc⟩
    · rw [upd_ne (fun z => by rw [z, hHc] at e; cases e)]; exact B.tups b xs e
    · rw [upd_ne (fun z => by rw [z, hHc] at e; cases e)]; exact B.frzs b o u e
    · rw [upd_ne (fun z => by rw [z, hHc] at e; cases e)]; exact B.tbls b ps e
def tUpE (S : Addr → V → Sp → Prop) (t : TA) : TE := fun σ H Q => t σ H fun vs H1 => ∃ (c : Addr) (w0 : V) (sp : Sp), H1 c = some (CellO c w0) ∧ S c w0 sp ∧ sp vs (delH H1 c) (fun v H2 => H2 c = none → Q v (upd H2 c (CellO c w0))) C8.E0
theorem pe_cUpE {X : Cx} {k j : Nat} {g : Addr} {x y : Str} {p pos : Pos} {e : Expr} {es : List Expr} {t : TA} {S : Addr → V → Sp → Prop} (named : X.mg x = some (.ref g)) (kept : PySem.W.keepIn X.K (.ref g) = true)
    (hS : ∀ c w0 sp (base' : Heap), S c w0 sp → X.K.In base' → base'.Ns mainGlobals X.mg → BCells [(y, c)] [y] [some w0] base' → Cal X.prog X.w X.K X.mg base' k x sp []) (room : Room j X.A) (hk : k ≤ j) (hg : Gl X x) (ha : PA X (e :: es) t) (hdb : (x == ("__debug__" : Str)) = false := by decide)
    (he : starEach (e :: es) X.env = (false, eval e X.env) :: starEach es X.env := by rfl) (hpl : (backTo pos (starEach es X.env)).any (·.1) = false := by rfl) : PE X (.Call (.Name x p) (e :: es) [] pos) (tUpE S t) := by
  constructor
  intro pins s σ H Q I want
  refine wpAny_Call_Name_kw (ld_glob I hg named ?_ hdb)
  refine PySem.W.callWith_K (h₀ := X.base) I.ok.mod.kin kept (thn (ha.run pos pins s σ H _ I want) ?_) he hpl
  rintro us s1 ⟨vs, H1, I1, rel, c, w0, sp, ec, s0, q⟩
  refine ⟨I1.kIn, ?_⟩
  obtain ⟨u0, ru, hcell⟩ := cellO_at I1.hok ec
  have e0 := I1.env0
  have nfr : ∀ b ∈ frs X.stack, b ≠ c := fun b hb z => by
    have := e0.frf b hb
    rw [z, ec] at this; cases this
  have kk : ∀ b o, X.base.get? b = some o → (upB s1.heap X.base [c]).get? b = some o := fun b o e => upB_get (e0.bs b o e).1 (.inl (by rw [e]; rfl))
  obtain ⟨mb, b1, b2⟩ := e0.mod.blt
  have hdel : ∀ b, H1 b = none → delH H1 c b = none := fun b n => by
    by_cases z : b = c
    · rw [z]; exact delH_same
    · rw [delH_ne z]; exact n
  have hok2 : HOk X.prog X.w (delH H1 c) s1.heap := fun b u eb => by
    by_cases z : b = c
    · rw [z, delH_same] at eb; cases eb
    · rw [delH_ne z] at eb
      refine (I1.hok b u eb).stay (fun _ _ _ q => q) (fun d q => ?_) fun d xs q => ?_
      · rw [delH_ne (fun z => by rw [z, ec] at q; exact cellO_own (Option.some.inj q))]; exact q
      · rw [delH_ne (fun z => by rw [z, ec] at q; exact cellO_tup (Option.some.inj q))]; exact q
  have E1 : Env0 X.prog X.w X.K X.mg (upB s1.heap X.base [c]) X.A X.stack s1 (delH H1 c) := by
    refine ⟨e0.frames, ⟨fun b o e => kk b o (e0.mod.kin b o e), e0.mod.glob.keeps kk, ⟨mb, b1.keeps kk, b2⟩, e0.mod.nolimit.keeps kk⟩, fun b o e => ?_, Nat.le_of_eq (hidT_size _ _), funs_up e0.funs fun L hL hm => nfr L hL (List.mem_singleton.mp hm), fun b hb => hdel b (e0.frf b hb), hok2, e0.bare⟩
    obtain ⟨e1, n⟩ := of_upB e
    refine ⟨e1, ?_⟩
    rcases n with n | n
    · obtain ⟨o', q⟩ := Option.isSome_iff_exists.mp n
      exact hdel b (e0.bs b o' q).2
    · rw [List.mem_singleton.mp n]; exact delH_same
  have hcB : (upB s1.heap X.base [c]).IsCell c (some u0) := let ⟨o, h1, h2⟩ := hcell; ⟨o, upB_get h1 (.inr (List.mem_singleton.mpr rfl)), h2⟩
  have BC : BCells [(y, c)] [y] [some w0] (upB s1.heap X.base [c]) := by
    refine ⟨rfl, fun z c' e => ?_, fun a b c' h1 h2 => ?_, fun i z e => ?_⟩
    · have : c' = c := by
        by_cases hz : z = y
        · subst hz; rw [List.lookup_cons_self] at e; exact (Option.some.inj e).symm
        · rw [List.lookup_cons, beq_eq_false_iff_ne.mpr hz] at e; cases e
      subst this; exact ⟨_, hcB⟩
    · have one : ∀ z, [(y, c)].lookup z = some c' → z = y := fun z e => by
        by_cases hz : z = y
        · exact hz
        · rw [List.lookup_cons, beq_eq_false_iff_ne.mpr hz] at e; cases e
      rw [one a h1, one b h2]
    · cases i with
      | succ i => cases e
      | zero =>
        cases e
        exact ⟨c, List.lookup_cons_self .., fun v hv => by cases hv; exact ⟨u0, ru, hcB⟩⟩
  obtain ⟨f, fd, ps, ds, F, named', _, bd, dv⟩ := (hS c w0 sp _ s0 E1.mod.kin E1.mod.glob BC).ex
  rw [named] at named'
  cases named'
  cases dv
  have count : (us ++ []).length = ps.length := by rw [List.append_nil, ← rel.length]; exact F.len _ _ _ _ q
  have bs := bd s1 us I1.kIn count
  rw [List.append_nil] at bs
  refine wpAny_call (codeAny_mono (F.run X.A X.stack s1 (delH H1 c) ⟨us, []⟩ us vs (fun v H2 => H2 c = none → Q v (upd H2 c (CellO c w0))) C8.E0 (room.mono hk) E1 bs rel q) fun r t' got => ?_)
  match r, got with
  | .ok (.ret u), got =>
    obtain ⟨v, H', os, bare, un, hok, rv, qq⟩ := got
    obtain ⟨oc, hoc, hdc⟩ := hcell
    have hH' : H' c = none := un.free c oc hoc delH_same (fun z => nomatch z)
    have nc : c ∉ frs X.stack := fun z => nfr c z rfl
    have hc2 : t'.heap.IsCell c (some u0) := ⟨oc, un.keep c oc hoc delH_same nc (fun z => nomatch z), hdc⟩
    have nec : ∀ b, H1 b = none → b ≠ c := fun b n z => by rw [z, ec] at n; cases n
    refine I1.after ⟨v, upd H' c (CellO c w0), os, bare, ⟨fun b o h n => un.keep b o h (hdel b n), fun b o h n => un.slot b o h (hdel b n), fun b o h n hx => ?_, un.there, fun b xs h => ?_, fun b o u h => ?_, fun b ps h => ?_⟩, hok.laidN (fun _ _ q => q) hH' (cellO_ok ru hc2), rv, qq hH'⟩
    · rw [upd_ne (nec b n)]; exact un.free b o h (hdel b n) hx
    · have hb : b ≠ c := fun z => by rw [z, ec] at h; exact cellO_tup (Option.some.inj h)
      rw [upd_ne hb]; exact un.tups b xs (by rw [delH_ne hb]; exact h)
    · have hb : b ≠ c := fun z => by rw [z, ec] at h; exact cellO_frz (Option.some.inj h)
      rw [upd_ne hb]; exact un.frzs b o u (by rw [delH_ne hb]; exact h)
    · have hb : b ≠ c := fun z => by rw [z, ec] at h; exact cellO_tbl (Option.some.inj h)
      obtain ⟨more, e⟩ := un.tbls b ps (by rw [delH_ne hb]; exact h)
      exact ⟨more, by rw [upd_ne hb]; exact e⟩
end LX
set_option maxHeartbeats 2000000
namespace LX
open PySem PySem.Spec PyProof.Rows L2 C8 SX NdefX
theorem cellsFrom_app : ∀ (names : List (Str × NameKind)) (n : Nat) (acc : List (Str × Addr)), cellsFrom n names acc = cellsFrom n names [] ++ acc
  | [], _, _ => rfl
  | (name, kind) :: r, n, acc => by
    unfold cellsFrom
    split
    · rw [cellsFrom_app r (n + 1) ((name, n) :: acc), cellsFrom_app r (n + 1) [(name, n)], List.append_assoc]; rfl
    · exact cellsFrom_app r n acc
theorem cellsFrom_kind : ∀ {names : List (Str × NameKind)} {n : Nat} {y : Str} {c : Addr}, (y, c) ∈ cellsFrom n names [] → (y, NameKind.cell) ∈ names
  | [], _, _, _, h => by cases h
  | (name, kind) :: r, n, y, c, h => by
    unfold cellsFrom at h
    split at h
    · rename_i hk
      rw [cellsFrom_app] at h
      rcases List.mem_append.mp h with q | q
      · exact List.mem_cons_of_mem _ (cellsFrom_kind q)
      · cases List.mem_singleton.mp q
        rw [show kind = NameKind.cell from by cases kind <;> first | rfl | cases hk]
        exact List.mem_cons_self
    · exact List.mem_cons_of_mem _ (cellsFrom_kind h)
section
variable {M : Model} {A : Around} {E : Value → Shared → Prop} {s₀ s : Shared} {m cm : Str → Option Value} {env : Env} {own : List (Str × Addr)}
theorem stLF {n : Str} {v : Value} {Q : Unit → Shared → Prop} (x : InCallC s₀ env.locals m own cm s) (hk : env.scope.kind = .function) (hl : env.kindOf n = some .local)
    (h : ∀ s', InCallC s₀ env.locals (fun y => if y = n then some v else m y) own cm s' → Q () s') : wpAny M A (storeName env n v) Q E s := by
  refine wpAny_storeName_local hl x.toInCall.ns (fun h' hn' hs' => h _ ⟨⟨?_, hn', fun b o e => ?_, x.toInCall.fresh⟩, fun k c hc => ?_, x.apart, x.above⟩) (by rw [hk]; rfl)
  · obtain ⟨h₁, tk, rfl⟩ := x.toInCall.same
    exact ⟨h', _, rfl⟩
  · exact hs'.extBut b o (Nat.ne_of_lt (Nat.lt_of_lt_of_le (Heap.lt_size e) x.toInCall.fresh)) (x.toInCall.keep b o e)
  · exact (x.cell k c hc).sameBut hs' (Nat.ne_of_gt (x.above k c (PySem.mem_of_lookup hc)))
theorem stCF {n : Str} {c : Addr} {v : Value} {Q : Unit → Shared → Prop} (x : InCallC s₀ env.locals m own cm s) (hk : env.scope.kind = .function) (hl : env.kindOf n = some .cell) (ho : own.lookup n = some c) (hc : env.cells.lookup n = some c)
    (h : ∀ s', InCallC s₀ env.locals m own (fun y => if y = n then some v else cm y) s' → Q () s') : wpAny M A (storeName env n v) Q E s := by
  have hLc := x.above n c (PySem.mem_of_lookup ho)
  refine wpAny_storeName_cell hk hl hc (x.cell n c ho) fun h' hc' hs' => h _ ⟨⟨?_, x.toInCall.ns.sameBut hs' (Nat.ne_of_lt hLc), fun b o e => ?_, x.toInCall.fresh⟩, fun k c' hk' => ?_, x.apart, x.above⟩
  · obtain ⟨h₁, tk, rfl⟩ := x.toInCall.same
    exact ⟨h', _, rfl⟩
  · exact hs'.extBut b o (Nat.ne_of_lt (Nat.lt_trans (Nat.lt_of_lt_of_le (Heap.lt_size e) x.toInCall.fresh) hLc)) (x.toInCall.keep b o e)
  · by_cases hkn : k = n
    · subst hkn
      rw [ho] at hk'; cases hk'
      simpa using hc'
    · rw [if_neg hkn]
      exact (x.cell k c' hk').sameBut hs' fun e => hkn (name_of_addr x.apart (PySem.mem_of_lookup hk') (e ▸ PySem.mem_of_lookup ho))
theorem bindParamsF (f : Str × Value → PUnit → Sem (ForInStep PUnit)) (hf : ∀ n v u, f (n, v) u = (do storeName env n v; pure (.yield ⟨⟩))) (hk : env.scope.kind = .function) (hown : ∀ n c, own.lookup n = some c → env.cells.lookup n = some c) :
    ∀ (binds : List (Str × Value)) (m cm : Str → Option Value) (s : Shared) (Q : PUnit → Shared → Prop), InCallC s₀ env.locals m own cm s →
      (∀ x ∈ binds, env.kindOf x.1 = some .local ∨ (env.kindOf x.1 = some .cell ∧ (own.lookup x.1).isSome = true)) →
      (∀ s', InCallC s₀ env.locals (bindL env.kindOf binds m) own (bindC env.kindOf binds cm) s' → Q ⟨⟩ s') → wpAny M A (forIn binds ⟨⟩ f) Q E s
  | [], m, cm, s, Q, x, _, h => by rw [List.forIn_nil]; exact wpAny_pure (h s x)
  | (n, v) :: r, m, cm, s, Q, x, hkind, h => by
    rw [List.forIn_cons, hf]
    have hr : ∀ y ∈ r, env.kindOf y.1 = some .local ∨ (env.kindOf y.1 = some .cell ∧ (own.lookup y.1).isSome = true) := fun y hy => hkind y (List.mem_cons_of_mem _ hy)
    rcases hkind (n, v) List.mem_cons_self with hl | ⟨hl, hc⟩
    · refine wpAny_bind (wpAny_bind (stLF x hk hl fun s' x' => wpAny_pure (bindParamsF f hf hk hown r _ _ s' Q x' hr fun s'' x'' => h s'' ?_)))
      unfold bindL bindC; rw [if_pos hl, if_pos hl]; exact x''
    · obtain ⟨c, hc⟩ := Option.isSome_iff_exists.mp hc
      have hnl : ¬ env.kindOf n = some .local := by rw [hl]; decide
      refine wpAny_bind (wpAny_bind (stCF x hk hl hc (hown n c hc) fun s' x' => wpAny_pure (bindParamsF f hf hk hown r _ _ s' Q x' hr fun s'' x'' => h s'' ?_)))
      unfold bindL bindC; rw [if_neg hnl, if_neg hnl]; exact x''
end
section
variable {M : Model} {A : Around} {E : Value → Shared → Prop} {s : Shared}
theorem lookup_app {l r : List (Str × Addr)} {n : Str} {c : Addr} (h : l.lookup n = some c) : (l ++ r).lookup n = some c := by rw [List.lookup_append, h]; rfl
theorem newFunctionEnvF {scope : Scope} {globals : Addr} {cl : List (Str × Addr)} {binds : List (Str × Value)} {qual : Str} {func : Option Addr} {code : Value} {builtins : Addr} {Q : Env → Shared → Prop}
    (hk : scope.kind = .function)
    (hkind : ∀ x ∈ binds, scope.names.lookup x.1 = some .local ∨ (scope.names.lookup x.1 = some .cell ∧ ((cellsFrom (s.heap.objs.size + 1) scope.names []).lookup x.1).isSome = true))
    (hQ : ∀ env, env = newEnv scope s.heap.objs.size globals (cellsFrom (s.heap.objs.size + 1) scope.names [] ++ cl) qual func code none builtins →
      ∀ s', InCallC s env.locals (bindL env.kindOf binds fun _ => none) (cellsFrom (s.heap.objs.size + 1) scope.names []) (bindC env.kindOf binds fun _ => none) s' → Q env s') :
    wpAny M A (newFunctionEnv scope globals cl binds qual func code none builtins) Q E s := by
  simp only [newFunctionEnv, Option.isSome_none, Bool.false_eq_true, if_false]
  refine wpAny_bind (wpAny_alloc ?_)
  refine wpAny_bind (wpAny_layCells _ (fun name kind cells => by cases hkc : kind == NameKind.cell <;> simp [hkc]) _ _ _ _ ?_)
  have ok := cellsFrom_ok scope.names (s.heap.push { cls := .type "frame", data := .dict #[] }) (s.heap.objs.size + 1) [] ⟨fun _ _ hm => (nomatch hm), List.Pairwise.nil⟩ (by rw [Heap.size_push]; exact Nat.le_refl _)
  rw [Heap.size_push] at ok
  rw [show ({ s with heap := s.heap.push { cls := .type "frame", data := .dict #[] } } : Shared).heap.objs.size = s.heap.objs.size + 1 from Heap.size_push ..]
  rw [cellsFrom_app]
  refine wpAny_bind (bindParamsF (s₀ := s) (own := cellsFrom (s.heap.objs.size + 1) scope.names []) (env := newEnv scope s.heap.objs.size globals (cellsFrom (s.heap.objs.size + 1) scope.names [] ++ cl) qual func code none builtins)
    _ (fun _ _ _ => rfl) hk (fun n c h => lookup_app h) binds (fun _ => none) (fun _ => none) _ _
    ⟨⟨⟨_, _, rfl⟩, (Heap.Ns.new s.heap (.type "frame")).keeps (pushCells_keeps _ _), fun b o e => pushCells_keeps _ _ b o (Heap.get?_push_of_some _ e), Nat.le_refl _⟩,
      fun n c hc => (ok.empty n c (PySem.mem_of_lookup hc)).1, ok.apart, fun n c hm => (ok.empty n c hm).2⟩
    hkind fun s' x => wpAny_pure (hQ _ rfl s' x))
end
structure NScopeC (N ps fr : List Str) (sc : Scope) : Prop where
  kind : sc.kind = .function
  co : sc.isCoroutine = false
  gen : sc.isGenerator = false
  nd : N.Nodup
  pre : N.take (ps.length + fr.length) = ps ++ fr
  par : ∀ x ∈ ps, sc.names.lookup x = some .local ∨ sc.names.lookup x = some .cell
  free : ∀ y ∈ sc.names, y.2 = .free → y.1 ∈ fr
  frk : ∀ x ∈ fr, sc.names.lookup x = some .free
  frc : ∀ x ∈ fr, ∀ y ∈ sc.names, y.2 = .cell → y.1 ≠ x
def nscCB (N ps fr : List Str) (sc : Scope) : Bool :=
  decide (sc.kind = .function) && !sc.isCoroutine && !sc.isGenerator && decide N.Nodup && decide (N.take (ps.length + fr.length) = ps ++ fr) && ps.all (fun x => decide (sc.names.lookup x = some .local) || decide (sc.names.lookup x = some .cell)) && sc.names.all (fun y => !decide (y.2 = .free) || decide (y.1 ∈ fr)) && fr.all (fun x => decide (sc.names.lookup x = some .free)) && fr.all (fun x => sc.names.all fun y => !decide (y.2 = .cell) || !decide (y.1 = x))
theorem nscopeC_by {N ps fr : List Str} {sc : Scope} (h : nscCB N ps fr sc = true) : NScopeC N ps fr sc := by
  unfold nscCB at h
  simp only [Bool.and_eq_true, Bool.not_eq_true', decide_eq_true_eq, List.all_eq_true, Bool.or_eq_true, decide_eq_false_iff_not] at h
  obtain ⟨⟨⟨⟨⟨⟨⟨⟨h1, h2⟩, h3⟩, h4⟩, h5⟩, h6⟩, h8⟩, h9⟩, h10⟩ := h
  exact ⟨h1, h2, h3, h4, h5, h6, fun y hy e => (h8 y hy).elim (fun z => absurd e z) id, h9, fun x hx y hy e => (h10 x hx y hy).elim (fun z => absurd e z) id⟩
abbrev ownF (F : NF) (L : Addr) : List (Str × Addr) := cellsFrom (L + 1) F.scope.names []
abbrev envFC (F : NF) (f L : Addr) : Env := PySem.W.envX F.qual F.scope L f (.ref F.c) (ownF F L ++ F.cl)
def ncxC (CX : CXT) (P : Program) (w : World) (K : PySem.W.Frag) (mg : Str → Option Value) (base : Heap) (N : List Str) (F : NF) (f : Addr) (A : Around) (outer : List Env) (s : Shared) (H : Hp) (E : XK) : Cx where
  prog := P
  w := w
  K := K
  mg := mg
  base := base
  A := A.deeper (envFC F f s.heap.objs.size)
  N := N
  s_0 := s
  H_0 := H
  env := envFC F f s.heap.objs.size
  outer := outer
  stack := envFC F f s.heap.objs.size :: outer
  ex := []
  calm := true
  fn := fun y => decide (F.scope.names.lookup y = some .cell)
  pn := []
  xe := fun e s' => wpAny (model P w) (A.deeper (envFC F f s.heap.objs.size)) (leaving (envFC F f s.heap.objs.size) e) (fun _ s'' => CX outer H s E e s'') (fun e' s'' => CX outer H s E e' s'') s'
section
variable {CX : CXT} {P : Program} {w : World} {K : PySem.W.Frag} {mg : Str → Option Value} {base : Heap} {N ps fr : List Str} {F : NF} {f : Addr} {A : Around} {outer : List Env} {s s1 : Shared} {H : Hp} {E : XK} {us : List Value} {vs : List V} {ws : List (Option V)}
theorem own_none (S : NScopeC N ps fr F.scope) {y : Str} (h : y ∈ fr) {L : Addr} : (ownF F L).lookup y = none := by
  cases e : (ownF F L).lookup y with
  | none => rfl
  | some c => exact absurd rfl (S.frc y h _ (cellsFrom_kind (PySem.mem_of_lookup e)) rfl)
theorem inv_startNC (S : NScopeC N ps fr F.scope) (hd : A.handled = none) (e0 : Env0 P w K mg base A outer s H) (hl : vs.length = ps.length) (r : Vals vs us) (C : CellsAt F.cl fr ws s.heap H)
    (x : InCallC s s.heap.objs.size (bindL (envFC F f s.heap.objs.size).kindOf (ps.zip us) fun _ => none) (ownF F s.heap.objs.size) (bindC (envFC F f s.heap.objs.size).kindOf (ps.zip us) fun _ => none) s1) :
    Inv (ncxC CX P w K mg base N F f A outer s H E) [] (startF N vs ws) H s1 := by
  have hpl : ps.length + fr.length ≤ N.length := by
    have q := congrArg List.length S.pre
    rw [List.length_take, List.length_append] at q
    omega
  obtain ⟨h1, tk, rfl, hk⟩ := x.done
  have noA : ∀ b : Addr, b ∉ (ncxC CX P w K mg base N F f A outer s H E).ex := fun b z => absurd (show b ∈ ([] : List Addr) from z) (by simp)
  have cellK : ∀ {c : Addr} {v : Option Value}, s.heap.IsCell c v → h1.IsCell c v := fun {c v} ⟨o, ho, hd⟩ => ⟨o, hk _ _ ho, hd⟩
  have ownGe : ∀ {y c}, (ownF F s.heap.objs.size).lookup y = some c → s.heap.objs.size < c := fun h => x.above _ _ (PySem.mem_of_lookup h)
  have clLt : ∀ {y c}, F.cl.lookup y = some c → c < s.heap.objs.size := fun h => let ⟨_, z⟩ := (C.all _ _ h).2; z.lt
  have look : ∀ {y c}, (ownF F s.heap.objs.size ++ F.cl).lookup y = some c → (ownF F s.heap.objs.size).lookup y = some c ∨ ((ownF F s.heap.objs.size).lookup y = none ∧ F.cl.lookup y = some c) := fun {y c} h => by
    rw [List.lookup_append] at h
    cases e : (ownF F s.heap.objs.size).lookup y with
    | some d => rw [e] at h; exact .inl h
    | none => rw [e] at h; exact .inr ⟨rfl, h⟩
  refine ⟨⟨e0.mod, S.kind, rfl, rfl, Nat.le_refl _, fun y z c h1 h2 => ?_, fun y hy => ?_, fun y c hf h => ?_, fun _ => hd, Around.frames_deeper e0.frames, .inr ⟨rfl, rfl⟩, fun b z => absurd z (noA b), e0.bs, e0.bsz, fun b _ _ => noA b, fun b z => absurd z (noA b), e0.funs, e0.frf⟩,
    rfl, e0.bare, Un.kept hk, ⟨_, x.toInCall.ns, fun i y v e1 e2 e3 => ?_⟩, fun y c h => ?_, e0.hok.fresh (Nat.le_refl _), fun y c h => ?_, fun p hp => absurd (show p ∈ ([] : List (Addr × Obj)) from hp) (by simp), e0.hok.kept hk, ?_⟩
  · rcases look h1 with a | ⟨_, a⟩ <;> rcases look h2 with b | ⟨_, b⟩
    · exact name_of_addr x.apart (PySem.mem_of_lookup a) (PySem.mem_of_lookup b)
    · exact absurd (Nat.lt_trans (ownGe a) (clLt b)) (Nat.lt_irrefl _)
    · exact absurd (Nat.lt_trans (ownGe b) (clLt a)) (Nat.lt_irrefl _)
    · exact C.inj _ _ _ a b
  · have hy : F.scope.names.lookup y = some .cell ∨ F.scope.names.lookup y = some .free := hy
    rcases hy with hy | hy
    · obtain ⟨c, e⟩ := cell_has (n := s.heap.objs.size + 1) hy
      exact ⟨c, lookup_app e⟩
    · have hm := S.free _ (PySem.mem_of_lookup hy) rfl
      obtain ⟨i, hi⟩ := List.mem_iff_getElem?.mp hm
      obtain ⟨c, hc, _⟩ := C.has i y hi
      exact ⟨c, by show (ownF F s.heap.objs.size ++ F.cl).lookup y = _; rw [List.lookup_append, own_none S hm]; exact hc⟩
  · have hf : F.scope.names.lookup y = some .cell := of_decide_eq_true hf
    obtain ⟨c', e⟩ := cell_has (n := s.heap.objs.size + 1) hf
    have h : (ownF F s.heap.objs.size ++ F.cl).lookup y = some c := h
    rw [lookup_app e] at h
    cases h
    exact Nat.le_of_lt (ownGe e)
  · have e1 : N[i]? = some y := e1
    have clen := C.len
    unfold startF at e2
    by_cases h1 : i < ps.length
    · have hq : (ps ++ fr)[i]? = some y := by
        rw [← S.pre, List.getElem?_take_of_lt (by omega)]
        exact e1
      rw [List.getElem?_append_left h1] at hq
      rw [List.getElem?_append_left (by rw [List.length_map]; omega), List.getElem?_map] at e2
      have ha : vs[i]? = some v := by
        cases e : vs[i]? with
        | none => rw [e] at e2; cases e2
        | some a => rw [e] at e2; cases e2; rfl
      obtain ⟨u, hu, rv⟩ := r.get ha
      have ndP : ps.Nodup := by
        have q := S.nd.sublist (List.take_sublist (ps.length + fr.length) N)
        rw [S.pre] at q
        exact (List.nodup_append.mp q).1
      refine ⟨u, rv, ?_⟩
      rcases S.par y (List.mem_of_getElem? hq) with k | k
      · exact .inl ⟨k, bindL_get ndP hq hu k⟩
      · obtain ⟨c, e⟩ := cell_has (n := s.heap.objs.size + 1) k
        refine .inr ⟨.inl k, c, lookup_app e, ?_⟩
        have q := x.cell y c e
        rw [bindC_get ndP hq hu (by show F.scope.names.lookup y ≠ _; rw [k]; decide)] at q
        exact q
    · rw [List.getElem?_append_right (by rw [List.length_map]; omega), List.length_map] at e2
      by_cases h2 : i < ps.length + fr.length
      · have hq : (ps ++ fr)[i]? = some y := by
          rw [← S.pre, List.getElem?_take_of_lt (by omega)]
          exact e1
        rw [List.getElem?_append_right (by omega)] at hq
        rw [List.getElem?_append_left (by omega), hl] at e2
        obtain ⟨c, hc, hv⟩ := C.has (i - ps.length) y hq
        obtain ⟨u, ru, hu⟩ := hv v e2
        have hm := List.mem_of_getElem? hq
        exact ⟨u, ru, .inr ⟨.inr (S.frk y hm), c, by show (ownF F s.heap.objs.size ++ F.cl).lookup y = _; rw [List.lookup_append, own_none S hm]; exact hc, cellK hu⟩⟩
      · rw [List.getElem?_append_right (by omega), List.getElem?_replicate] at e2
        split at e2 <;> cases e2
  · rcases look h with a | ⟨_, a⟩
    · exact ⟨_, x.cell y c a⟩
    · obtain ⟨v, z⟩ := (C.all y c a).2
      exact ⟨v, cellK z⟩
  · rcases look h with a | ⟨_, a⟩
    · exact e0.hok.fresh (Nat.le_of_lt (ownGe a))
    · exact (C.all y c a).1
  · have clen := C.len
    unfold startF
    show _ = N.length
    rw [List.length_append, List.length_append, List.length_map, List.length_replicate]
    omega
variable {k : Nat} {sp : List (Option V) → Sp}
theorem nok_ofC (S : NScopeC N ps fr F.scope) (hb : ∀ (doc pm ctv : Value) (us : List Value), us.length = ps.length → bindArgs (F.fd doc pm ctv) ⟨us, []⟩ = pure (ps.zip us)) (len : ∀ ws vs H Q E, sp ws vs H Q E → vs.length = ps.length)
    (hbody : ∀ (A : Around) (outer : List Env) (s : Shared) (H : Hp) (vs : List V) (ws : List (Option V)) (Q : VK) (E : XK), Room k (A.deeper (envFC F f s.heap.objs.size)) → H f = some (FnO f F) → H F.c = some (LamX.CodeO F.c F.qual) → ws.length = fr.length → sp ws vs H Q E →
      ∃ t, PSs (ncxC CX P w K mg base N F f A outer s H E) F.body t ∧ t { nx := fun _ H' => Q .non H', rt := Q } (startF N vs ws) H) :
    NOk P w K mg base CX (k + 1) f F ps fr sp := by
  refine ⟨len, fun A outer s H us vs ws Q E hr e0 hf hc C r hsp => ?_⟩
  have hl := len _ _ _ _ _ hsp
  have lim : s.heap.NoLimit := e0.mod.nolimit.keeps fun b o e => (e0.bs b o e).1
  obtain ⟨od, sl, doc, pm, ctv, ho⟩ := fnO_at e0.hok hf
  have hkind : ∀ y ∈ ps.zip us, F.scope.names.lookup y.1 = some .local ∨ (F.scope.names.lookup y.1 = some .cell ∧ ((cellsFrom (s.heap.objs.size + 1) F.scope.names []).lookup y.1).isSome = true) := fun ⟨n, v⟩ hy => by
    rcases S.par n (List.of_mem_zip hy).1 with q | q
    · exact .inl q
    · exact .inr ⟨q, PySem.W.cellsFrom_some _ _ _ (.inl q)⟩
  refine codeAny_call_function hr.depth ho rfl S.co S.gen rfl (codeO_at e0.hok hc) ?_
  rw [hb doc pm ctv us (by rw [← r.length]; exact hl)]
  refine wpAny_pure (newFunctionEnvF S.kind hkind fun env he s1 xx => ?_)
  subst he
  refine ⟨lim.keeps xx.toInCall.keep, codeAny_func ?_⟩
  obtain ⟨t, ht, hq⟩ := hbody A outer s H vs ws Q E (hr.deeper _) hf hc C.len hsp
  have I : Inv (ncxC CX P w K mg base N F f A outer s H E) [] (startF N vs ws) H s1 := inv_startNC S hr.hd e0 hl r C xx
  refine wpAny_mono (ht.run [] s1 (startF N vs ws) H _ I hq) (fun fl s' hs => ?_) fun e s' hs => hs
  have fin : ∀ {σ' : L2.St} {H' : Hp} {v : V} {u : Value}, Inv (ncxC CX P w K mg base N F f A outer s H E) [] σ' H' s' → L2.RelV v u → Q v H' → CE outer P w H s Q u s' :=
    fun {σ' H' v u} J rv q => ⟨v, H', J.os, J.bare, J.base, J.hok, rv, q⟩
  cases fl with
  | ret u =>
    obtain ⟨v, σ', H', J, rv, q⟩ := hs
    exact fin J rv q
  | next =>
    obtain ⟨σ', H', J, q⟩ := hs
    exact fin (v := V.non) (u := Value.none) J rfl q
  | brk =>
    obtain ⟨_, _, _, q⟩ := hs
    exact False.elim q
  | cont =>
    obtain ⟨_, _, _, q⟩ := hs
    exact False.elim q
end
end LX
set_option maxHeartbeats 1000000
namespace Toy
open PySem L2 C8 SX LX
def top (i : Nat) : Stmt := PySem.Challenge.pw_allrows_k21_acts_of_rows.main.body.getD i (.Pass ⟨0, 0, 0, 0⟩)
structure BT (mg : Str → Option Value) : Prop where
  m_int : mg "int" = none
  m_len : mg "len" = none
  m_abs : mg "abs" = none
  m_str : mg "str" = none
  m_list : mg "list" = none
  m_tuple : mg "tuple" = none
  m_dict : mg "dict" = none
  m_set : mg "set" = none
  m_isinstance : mg "isinstance" = none
  m_all : mg "all" = none
  m_zip : mg "zip" = none
  m_enumerate : mg "enumerate" = none
  m_range : mg "range" = none
  m_max : mg "max" = none
  m_min : mg "min" = none
  m_sorted : mg "sorted" = none
  m_repr : mg "repr" = none
def flo (c : Addr) (s n : Int) : HO := .lst [.ref c, .int s, .int n]
def FlowAt (f c : Addr) (H : Hp) : Prop := f ≠ c ∧ (∃ s n : Int, H f = some (flo c s n)) ∧ ∃ cs : List Int, H c = some (.lst (inz cs)) ∧ cs.length ≤ 63
def Fx (f c : Addr) (H H' : Hp) : Prop := (∀ a o, a ≠ f → a ≠ c → H a = some o → H' a = some o) ∧ FlowAt f c H'
theorem Fx.flow {f c : Addr} {H H' : Hp} (h : Fx f c H H') : FlowAt f c H' := h.2
theorem Fx.refl {f c : Addr} {H : Hp} (h : FlowAt f c H) : Fx f c H H := ⟨fun _ _ _ _ e => e, h⟩
theorem Fx.trans {f c : Addr} {H H1 H2 : Hp} (p : Fx f c H H1) (q : Fx f c H1 H2) : Fx f c H H2 := ⟨fun a o n m e => q.1 a o n m (p.1 a o n m e), q.2⟩
theorem Fx.cells {f c : Addr} {H H1 : Hp} {cs : List Int} (p : Fx f c H H1) (hc : cs.length ≤ 63) : Fx f c H (upd H1 c (.lst (inz cs))) := by
  obtain ⟨p1, n, ⟨s, t, e⟩, _⟩ := p
  exact ⟨fun a o n1 n2 z => by rw [upd_ne n2]; exact p1 a o n1 n2 z, n, ⟨s, t, by rw [upd_ne n]; exact e⟩, cs, upd_same, hc⟩
theorem Fx.nums {f c : Addr} {H H1 : Hp} {s t : Int} (p : Fx f c H H1) : Fx f c H (upd H1 f (flo c s t)) := by
  obtain ⟨p1, n, _, cs, e, hc⟩ := p
  exact ⟨fun a o n1 n2 z => by rw [upd_ne n1]; exact p1 a o n1 n2 z, n, ⟨s, t, upd_same⟩, cs, by rw [upd_ne n.symm]; exact e, hc⟩
theorem flow_ne {f c p : Addr} {H : Hp} (h : FlowAt f c H) (n : H p = none) : p ≠ f ∧ p ≠ c := by
  obtain ⟨_, ⟨s, t, e⟩, cs, e', _⟩ := h
  exact ⟨(ne_of_none e n).symm, (ne_of_none e' n).symm⟩
theorem Fx.put {f c p : Addr} {H H1 : Hp} {o : HO} (q : Fx f c H H1) (n : H1 p = none) (h : H p = none) : Fx f c H (upd H1 p o) := by
  obtain ⟨n1, n2⟩ := flow_ne q.2 n
  obtain ⟨q1, nn, ⟨s, t, e⟩, cs, e', hc⟩ := q
  exact ⟨fun a o' m1 m2 z => by rw [upd_ne (fun w => by rw [w, h] at z; cases z)]; exact q1 a o' m1 m2 z, nn, ⟨s, t, by rw [upd_ne n1.symm]; exact e⟩, cs, by rw [upd_ne n2.symm]; exact e', hc⟩
theorem Fx.free {f c p : Addr} {H H1 : Hp} (q : Fx f c H H1) (n : H1 p = none) : H p = none := by
  cases z : H p with
  | none => rfl
  | some o =>
    obtain ⟨n1, n2⟩ := flow_ne q.2 n
    rw [q.1 p o n1 n2 z] at n
    cases n
theorem fx_own {f c p : Addr} {H H1 : Hp} {o : HO} (q : Fx f c H H1) (h : H p = none) (n : p ≠ f ∧ p ≠ c := by assumption) : Fx f c H (upd H1 p o) := by
  obtain ⟨q1, nn, ⟨s, t, e⟩, cs, e', hc⟩ := q
  exact ⟨fun a o' m1 m2 z => by rw [upd_ne (fun w => by rw [w, h] at z; cases z)]; exact q1 a o' m1 m2 z, nn, ⟨s, t, by rw [upd_ne n.1.symm]; exact e⟩, cs, by rw [upd_ne n.2.symm]; exact e', hc⟩
local macro_rules | `(tactic| walk_at "c") => `(tactic| refine And.intro (by first | (show (0 : Int) < _; omega) | exact Or.inr ⟨by decide, by decide⟩ | exact Or.inl ⟨by decide, by decide⟩ | (exact ⟨by omega, by omega⟩)) ?_)
local macro_rules | `(tactic| walk_at "s1") => `(tactic| first | refine ⟨_, rfl, ?_⟩ | refine ⟨_, _, rfl, rfl, ?_⟩ | refine .inl ⟨_, rfl, ?_⟩ | walk_at "c")
local macro_rules | `(tactic| walk_at "s") => `(tactic| repeat (walk_at "s1"))
section
variable {P : Program} {w : World} {K : PySem.W.Frag} {mg : Str → Option Value} {base : Heap}
abbrev s_less : Stmt := top 36
abbrev n_less : List Str := ["flow", "wide", "great"]
theorem sc_less : FnScope n_less ["flow", "wide"] (fnScope s_less) := fnScope_by (by decide +kernel)
def spLess : Sp := fun vs H Q _ => ∃ (f c : Addr) (n : Int), vs = [.ref f, .int n] ∧ FlowAt f c H ∧ 0 < n ∧ n < 1073741824 ∧
  ∀ (d : Int) (H' : Hp), 0 ≤ d → d < n → Fx f c H H' → Q (.int d) H'
theorem ok_less (T : BT mg) {g : Addr} {fd : FuncData} (F : Def K mg "_law_less" s_less g fd) (b : Binds K fd ["flow", "wide"] []) : Cal P w K mg base 1 "_law_less" spLess [] := by
  refine cal0 F b .nil sc_less (fun vs H Q E h => ?_) (fun cdv A outer s H vs Q E hr h => ?_)
  · obtain ⟨f, c, n, rfl, _⟩ := h; rfl
  · obtain ⟨f, c, n, rfl, hf, n0, n1, k⟩ := h
    refine ⟨_, (pss_cons (ps_while PassesOwn.never (PW.pt (pw_and (pt_cmpR (op_neE hr) (pe_ix (ixl K) (pv 0) pe_int (fun _ _ => rfl)) (pe_lst pa_nil) (nomark _)) (pw_and1 (pt_cmpR op_eq (pe_ix (ixl K) (pe_ix (ixl K) (pv 0) pe_int (fun _ _ => rfl)) (pe_un un_neg pe_int) (fun _ _ => rfl)) pe_int (nomark _))))) 
        (pss_one (ps_expr (pe_bm0 PySem.F.plainAttrs_list PySem.F.slot_list_pop PySem.F.type_list_pop mt_pop (pe_ix (ixl K) (pv 0) pe_int (fun _ _ => rfl))))
        ))
      (pss_cons (ps_if (pt_cmpR (op_neE hr) (pe_ix (ixl K) (pv 0) pe_int (fun _ _ => rfl)) (pe_lst pa_nil) (nomark _)) 
        (pss_cons (ps_set (i := 2) sc_less.nd rfl (.inl rfl) (pe_bm0 PySem.F.plainAttrs_list PySem.F.slot_list_pop PySem.F.type_list_pop mt_pop (pe_ix (ixl K) (pv 0) pe_int (fun _ _ => rfl))))
        (pss_cons (ps_expr (pe_bm PySem.F.plainAttrs_list PySem.F.slot_list_append PySem.F.type_list_append mt_append (pe_ix (ixl K) (pv 0) pe_int (fun _ _ => rfl)) (pa_cons (pe_op op_fdiv (pv 2) (pv 1)) pa_nil)))
        (pss_one (ps_ret (pe_op op_mod (pe_callTy call_int1 (by rfl) T.m_int PyProof.Rows.boot_int (pa_cons (pv 2) pa_nil)) (pv 1)))
        )))
       pss_nil)
      (pss_cons (ps_asg (pe_op op_add (pe_ix (ixl K) (pv 0) pe_int (fun _ _ => rfl)) pe_int) (pg_sub (pv 0) pe_int set_list))
      (pss_cons (ps_asg (pe_op op_mod (pe_callTy call_int1 (by rfl) T.m_int PyProof.Rows.boot_int (pa_cons (pe_op op_add (pe_op op_mul (pe_ix (ixl K) (pv 0) pe_int (fun _ _ => rfl)) pe_int) (pe_op op_mul pe_int (pe_ix (ixl K) (pv 0) pe_int (fun _ _ => rfl)))) pa_nil)) pe_int) (pg_sub (pv 0) pe_int set_list))
      (pss_one (ps_ret (pe_op op_mod (pe_callTy call_int1 (by rfl) T.m_int PyProof.Rows.boot_int (pa_cons (pe_op op_fdiv (pe_ix (ixl K) (pv 0) pe_int (fun _ _ => rfl)) pe_int) pa_nil)) (pv 1)))
      ))))), ?_⟩
    refine ⟨fun m σ H' => ∃ cs : List Int, m = cs.length ∧ σ = [some (.ref f), some (.int n), none] ∧ Fx f c H H' ∧ H' c = some (.lst (inz cs)) ∧ cs.length ≤ 63, ?_, ?_⟩
    · obtain ⟨nn, e, cs, e', hc⟩ := hf
      exact ⟨cs.length, cs, rfl, rfl, Fx.refl ⟨nn, e, cs, e', hc⟩, e', hc⟩
    rintro m σ H1 ⟨cs, rfl, rfl, hF, hcs, hl⟩
    obtain ⟨nn, ⟨s1, t1, hf1⟩, _⟩ := hF.2
    refine ⟨_, rfl, f, _, 0, _, rfl, rfl, SqL.of hf1, rfl, ?_⟩
    refine ⟨by show 0 ≤ sizeLine; decide, fun p hp => ?_⟩
    refine ⟨c, p, cs, rfl, rfl, ?_, upd_same, ?_⟩
    · rw [upd_ne (flow_ne hF.2 hp).2.symm]; exact hcs
    have hF2 : Fx f c H (upd H1 p (.lst [])) := hF.put hp (hF.free hp)
    have hcs2 : (upd H1 p (.lst [])) c = some (.lst (inz cs)) := by rw [upd_ne (flow_ne hF.2 hp).2.symm]; exact hcs
    have hff2 : (upd H1 p (.lst [])) f = some (flo c s1 t1) := by rw [upd_ne (flow_ne hF.2 hp).1.symm]; exact hf1
    generalize upd H1 p (.lst []) = H2 at hF2 hcs2 hff2
    refine ⟨_, rfl, ?_⟩
    rcases List.eq_nil_or_concat cs with rfl | ⟨ds, z, rfl⟩
    · refine iteN rfl (iteN rfl ?_)
      refine nxt ?_
      dsimp only
      refine ⟨_, rfl, f, _, 0, _, rfl, rfl, SqL.of hff2, rfl, ?_⟩
      refine ⟨by show 0 ≤ sizeLine; decide, fun p2 hp2 => ?_⟩
      refine ⟨c, p2, [], rfl, rfl, by rw [upd_ne (flow_ne hF2.2 hp2).2.symm]; exact hcs2, upd_same, ?_⟩
      have hF3 : Fx f c H (upd H2 p2 (.lst [])) := hF2.put hp2 (hF2.free hp2)
      have hff3 : (upd H2 p2 (.lst [])) f = some (flo c s1 t1) := by rw [upd_ne (flow_ne hF2.2 hp2).1.symm]; exact hff2
      generalize upd H2 p2 (.lst []) = H3 at hF3 hff3
      refine ⟨_, rfl, iteN rfl ?_⟩
      refine nxt ?_
      dsimp only
      refine ⟨_, rfl, f, _, 2, _, rfl, rfl, SqL.of hff3, rfl, ?_⟩
      walk_at "s"
      refine ⟨f, _, 2, _, rfl, rfl, hff3, rfl, ?_⟩
      have hF4 : Fx f c H (upd H3 f (.lst ([V.ref c, V.int s1, V.int t1].set (Int.toNat 2) (V.int (t1 + 1))))) := hF3.nums (s := s1) (t := t1 + 1)
      have hff4 : (upd H3 f (.lst ([V.ref c, V.int s1, V.int t1].set (Int.toNat 2) (V.int (t1 + 1))))) f = some (flo c s1 (t1 + 1)) := upd_same
      dsimp only
      generalize upd H3 f (.lst ([V.ref c, V.int s1, V.int t1].set (Int.toNat 2) (V.int (t1 + 1)))) = H4 at hF4 hff4
      refine ⟨_, rfl, f, _, 1, _, rfl, rfl, SqL.of hff4, rfl, ?_⟩
      walk_at "s"
      refine ⟨f, _, 2, _, rfl, rfl, SqL.of hff4, rfl, ?_⟩
      walk_at "s"
      refine ⟨f, _, 1, _, rfl, rfl, hff4, rfl, ?_⟩
      have hF5 : Fx f c H (upd H4 f (.lst ([V.ref c, V.int s1, V.int (t1 + 1)].set (Int.toNat 1) (V.int ((s1 * 39373 + 113 * (t1 + 1)) % 2147483629))))) := hF4.nums (s := (s1 * 39373 + 113 * (t1 + 1)) % 2147483629) (t := t1 + 1)
      have hff5 : (upd H4 f (.lst ([V.ref c, V.int s1, V.int (t1 + 1)].set (Int.toNat 1) (V.int ((s1 * 39373 + 113 * (t1 + 1)) % 2147483629))))) f = some (flo c ((s1 * 39373 + 113 * (t1 + 1)) % 2147483629) (t1 + 1)) := upd_same
      dsimp only
      generalize upd H4 f (.lst ([V.ref c, V.int s1, V.int (t1 + 1)].set (Int.toNat 1) (V.int ((s1 * 39373 + 113 * (t1 + 1)) % 2147483629)))) = H5 at hF5 hff5
      refine ⟨_, rfl, f, _, 1, _, rfl, rfl, SqL.of hff5, rfl, ?_⟩
      walk_at "s"
      exact k _ _ (Int.emod_nonneg _ (by omega)) (Int.emod_lt_of_pos _ n0) hF5
    · refine iteB (by simp) ?_
      refine ⟨_, rfl, f, _, 0, _, rfl, rfl, SqL.of hff2, rfl, ?_⟩
      refine ⟨_, rfl, c, _, -1, .int z, rfl, rfl, SqL.of hcs2, at_last (by rw [inz_len]; simp) (by unfold inz; simp), ?_⟩
      refine ⟨rfl, ?_⟩
      refine ⟨_, rfl, ?_⟩
      refine ite2 (fun hz => ?_) (fun hz => ?_)
      · refine ⟨fun σ' H' => ∃ cs : List Int, cs.length < (ds.concat z).length ∧ σ' = [some (.ref f), some (.int n), none] ∧ Fx f c H H' ∧ H' c = some (.lst (inz cs)) ∧ cs.length ≤ 63,
          fun σ' H' ⟨cs, a1, a2, a3, a4, a5⟩ => ⟨cs.length, a1, cs, rfl, a2, a3, a4, a5⟩, ?_⟩
        refine ⟨_, rfl, f, _, 0, _, rfl, rfl, SqL.of hff2, rfl, ?_⟩
        refine ⟨.inl ⟨rfl, _, SqL.of hcs2⟩, c, _, .int z, rfl, rfl, hcs2, by unfold inz; simp, ?_⟩
        have e : (inz (ds.concat z)).dropLast = inz ds := by unfold inz; simp
        rw [e]
        have hd : ds.length ≤ 63 := by simp at hl; omega
        exact ⟨ds, by simp, rfl, hF2.cells hd, upd_same, hd⟩
      · refine nxt ?_
        dsimp only
        refine ⟨_, rfl, f, _, 0, _, rfl, rfl, SqL.of hff2, rfl, ?_⟩
        refine ⟨by show 0 ≤ sizeLine; decide, fun p2 hp2 => ?_⟩
        have hcs3 : (upd H2 p2 (.lst [])) c = some (.lst (inz (ds.concat z))) := by rw [upd_ne (flow_ne hF2.2 hp2).2.symm]; exact hcs2
        refine ⟨c, p2, ds.concat z, rfl, rfl, hcs3, upd_same, ?_⟩
        have hF3 : Fx f c H (upd H2 p2 (.lst [])) := hF2.put hp2 (hF2.free hp2)
        have hff3 : (upd H2 p2 (.lst [])) f = some (flo c s1 t1) := by rw [upd_ne (flow_ne hF2.2 hp2).1.symm]; exact hff2
        generalize upd H2 p2 (.lst []) = H3 at hF3 hff3 hcs3
        refine ⟨_, rfl, iteB (by simp) ?_⟩
        refine ⟨_, rfl, f, _, 0, _, rfl, rfl, SqL.of hff3, rfl, ?_⟩
        refine ⟨.inl ⟨rfl, _, SqL.of hcs3⟩, c, _, .int z, rfl, rfl, hcs3, by unfold inz; simp, ?_⟩
        have e : (inz (ds.concat z)).dropLast = inz ds := by unfold inz; simp
        rw [e]
        have hd : ds.length + 1 ≤ 63 := by simpa using hl
        have hF4 := hF3.cells (cs := ds) (by omega)
        have hcs4 : (upd H3 c (.lst (inz ds))) c = some (.lst (inz ds)) := upd_same
        have hff4 : (upd H3 c (.lst (inz ds))) f = some (flo c s1 t1) := by rw [upd_ne nn]; exact hff3
        generalize upd H3 c (.lst (inz ds)) = H4 at hF4 hcs4 hff4
        walk_at "s"
        refine ⟨f, _, 0, _, rfl, rfl, SqL.of hff4, rfl, ?_⟩
        refine ⟨.inl ⟨rfl, _, SqL.of hcs4⟩, ?_⟩
        walk_at "s"
        refine ⟨c, _, _, rfl, rfl, hcs4, by rw [inz_len]; show ds.length + 1 ≤ sizeLine; have : 64 ≤ sizeLine := by decide
                                            omega, ?_⟩
        have e2 : inz ds ++ [.int (z / n)] = inz (ds ++ [z / n]) := by unfold inz; simp
        rw [e2]
        have hF5 := hF4.cells (cs := ds ++ [z / n]) (by simp; omega)
        walk_at "s"
        exact k _ _ (Int.emod_nonneg _ (by omega)) (Int.emod_lt_of_pos _ n0) hF5
theorem fx_l {f c p : Addr} {H H' : Hp} {xs : List V} (e : Fx f c H H') (n : p ≠ f ∧ p ≠ c) (h : SqL K H p xs) : SqL K H' p xs := by
  rcases h with (h | ⟨o, h⟩) | h
  · exact .inl (.inl (e.1 _ _ n.1 n.2 h))
  · exact .inl (.inr ⟨o, e.1 _ _ n.1 n.2 h⟩)
  · exact .inr h
theorem fx_t {f c p : Addr} {H H' : Hp} {xs : List V} (e : Fx f c H H') (n : p ≠ f ∧ p ≠ c) (h : SqT K H p xs) : SqT K H' p xs := by
  rcases h with (h | ⟨o, h⟩) | h
  · exact .inl (.inl (e.1 _ _ n.1 n.2 h))
  · exact .inl (.inr ⟨o, e.1 _ _ n.1 n.2 h⟩)
  · exact .inr h
theorem fx_v {f c : Addr} {H H' : Hp} {x : V} {ys : List V} (e : Fx f c H H') (n : ∀ p, x = .ref p → p ≠ f ∧ p ≠ c) (h : SeqV K H x ys) : SeqV K H' x ys := by
  rcases h with ⟨p, rfl, h | h⟩ | h
  · exact .inl ⟨p, rfl, .inl (fx_l e (n p rfl) h)⟩
  · exact .inl ⟨p, rfl, .inr (fx_t e (n p rfl) h)⟩
  · exact .inr h
abbrev s_anyof : Stmt := top 37
abbrev n_anyof : List Str := ["flow", "some"]
theorem sc_anyof : FnScope n_anyof ["flow", "some"] (fnScope s_anyof) := fnScope_by (by decide +kernel)
def spAny : PySem.W.Frag → Sp := fun K vs H Q _ => ∃ (f c : Addr) (x : V) (ys : List V), vs = [.ref f, x] ∧ FlowAt f c H ∧ (∀ p, x = .ref p → p ≠ f ∧ p ≠ c) ∧ SeqV K H x ys ∧ 0 < ys.length ∧ ys.length < 1000 ∧
  ∀ (v : V) (H' : Hp), v ∈ ys → Fx f c H H' → Q v H'
theorem ok_any (T : BT mg) (c_less : Cal P w K mg base 1 "_law_less" spLess []) {g : Addr} {fd : FuncData} (F : Def K mg "_law_any_of" s_anyof g fd) (b : Binds K fd ["flow", "some"] []) : Cal P w K mg base 2 "_law_any_of" (spAny K) [] := by
  refine cal0 F b .nil sc_anyof (fun vs H Q E h => ?_) (fun cdv A outer s H vs Q E hr h => ?_)
  · obtain ⟨f, c, x, ys, rfl, _⟩ := h; rfl
  · obtain ⟨f, c, x, ys, rfl, hf, hn, hx, h0, h1, k⟩ := h
    refine ⟨_, (pss_one (ps_ret (pe_ix (ixA K) (pv 1) (pe_c c_less hr (by first | decide | omega) (by rfl) (pa_cons (pv 0) (pa_cons (pe_callB (lenA K) (by rfl) T.m_len (by rfl) (pa_cons (pv 1) pa_nil)) pa_nil))) (fun _ _ => rfl)))
      ), ?_⟩
    walk_at "s"
    refine ⟨_, _, rfl, hx, ?_⟩
    refine ⟨f, c, (ys.length : Int), rfl, hf, by omega, by omega, fun d H' d0 d1 hB => ?_⟩
    have hd : d.toNat < ys.length := by omega
    refine ⟨_, _, ys[d.toNat], rfl, fx_v hB hn hx, ?_, ?_⟩
    · exact at_of (by omega) (List.getElem?_eq_getElem hd)
    · exact k _ _ (List.getElem_mem hd) hB
abbrev s_shaken : Stmt := top 38
abbrev n_shaken : List Str := ["flow", "some", "left", "found", "turn"]
theorem sc_shaken : FnScope n_shaken ["flow", "some"] (fnScope s_shaken) := fnScope_by (by decide +kernel)
def spShaken : PySem.W.Frag → Sp := fun K vs H Q _ => ∃ (f c l : Addr) (xs : List (List Nat)), vs = [.ref f, .ref l] ∧ FlowAt f c H ∧ (l ≠ f ∧ l ≠ c) ∧ SqL K H l (txs xs) ∧ xs.length < 1000 ∧
  ∀ (ys : List (List Nat)) (p : Addr) (H' : Hp), ys.Perm xs → H p = none → Fx f c H H' → H' p = some (.lst (txs ys)) → Q (.ref p) H'
theorem ok_shaken (T : BT mg) (c_less : Cal P w K mg base 1 "_law_less" spLess []) {g : Addr} {fd : FuncData} (F : Def K mg "_law_shaken" s_shaken g fd) (b : Binds K fd ["flow", "some"] []) : Cal P w K mg base 2 "_law_shaken" (spShaken K) [] := by
  refine cal0 F b .nil sc_shaken (fun vs H Q E h => ?_) (fun cdv A outer s H vs Q E hr h => ?_)
  · obtain ⟨f, c, l, xs, rfl, _⟩ := h; rfl
  · obtain ⟨f, c, l, xs, rfl, hf, hln, hl, h1, k⟩ := h
    refine ⟨_, (pss_cons (ps_par (i := 2) (j := 3) rfl sc_shaken.nd rfl rfl (by decide) rfl rfl (pa_cons (pe_callTy (listK K) (by rfl) T.m_list PyProof.Rows.boot_list (pa_cons (pv 1) pa_nil)) (pa_cons (pe_lst pa_nil) pa_nil)) rfl)
      (pss_cons (ps_for PassesOwn.never rfl (pi_range1 (by rfl) T.m_range (pa_cons (pe_callB (lenK K) (by rfl) T.m_len PySem.boot_len (pa_cons (pv 1) pa_nil)) pa_nil)) (pg_name (i := 4) sc_shaken.nd rfl (.inl rfl)) 
        (pss_one (ps_expr (pe_bm PySem.F.plainAttrs_list PySem.F.slot_list_append PySem.F.type_list_append mt_append (pv 3) (pa_cons (pe_bm PySem.F.plainAttrs_list PySem.F.slot_list_pop PySem.F.type_list_pop mt_popAt (pv 2) (pa_cons (pe_c c_less hr (by first | decide | omega) (by rfl) (pa_cons (pv 0) (pa_cons (pe_callB (lenK K) (by rfl) T.m_len PySem.boot_len (pa_cons (pv 2) pa_nil)) pa_nil))) pa_nil)) pa_nil)))
        ))
      (pss_one (ps_ret (pv 3))
      ))), ?_⟩
    refine ⟨_, rfl, l, _, rfl, .inl hl, fun p hp => ?_⟩
    refine ⟨by show 0 ≤ sizeLine; decide, fun q hq => ?_⟩
    have hqp : q ≠ p := fun e => by rw [e, upd_same] at hq; cases hq
    have hq0 : H q = none := by rw [upd_ne hqp] at hq; exact hq
    have hpf := flow_ne hf hp
    have hF1 : Fx f c H (upd H p (.lst (txs xs))) := (Fx.refl hf).put hp hp
    have hqf := flow_ne hf hq0
    have hF2 : Fx f c H (upd (upd H p (.lst (txs xs))) q (.lst [])) := hF1.put hq hq0
    refine ⟨_, _, rfl, ?_⟩
    have hl2 : SqL K (upd (upd H p (.lst (txs xs))) q (.lst [])) l (txs xs) := fx_l hF2 hln hl
    have hp2 : (upd (upd H p (.lst (txs xs))) q (.lst [])) p = some (.lst (txs xs)) := by rw [upd_ne hqp.symm, upd_same]
    have hq2 : (upd (upd H p (.lst (txs xs))) q (.lst [])) q = some (.lst []) := upd_same
    generalize upd (upd H p (.lst (txs xs))) q (.lst []) = H2 at hF2 hl2 hp2 hq2
    refine ⟨_, rfl, l, _, rfl, .inl hl2, ?_⟩
    refine ⟨((txs xs).length : Int), rfl, by rw [txs_len]; omega, by rw [txs_len]; omega, ?_⟩
    rw [txs_len]
    refine for_it (walk_range (lo := 0)) (fun i σ H' => ∃ (rs fs : List (List Nat)) (s4 : Option V), σ = [some (.ref f), some (.ref l), some (.ref p), some (.ref q), s4] ∧ (rs ++ fs).Perm xs ∧ fs.length = i ∧ H' p = some (.lst (txs rs)) ∧ H' q = some (.lst (txs fs)) ∧ Fx f c H H')
      ⟨xs, [], _, rfl, by rw [List.append_nil], rfl, hp2, hq2, hF2⟩ (fun _ _ _ _ _ => trivial) ?_ ?_
    · rintro i x σ H3 H3' hi ⟨rs, fs, s4, rfl, hperm, hfi, hp3, hq3, hF3⟩ ⟨rfl, rfl⟩
      have hlen : rs.length + fs.length = xs.length := by rw [← List.length_append]; exact hperm.length_eq
      have hin : i < xs.length := by simpa using hi
      refine ⟨_, rfl, .inl ⟨rfl, _, SqL.of hq3⟩, ?_⟩
      refine ⟨_, rfl, .inl ⟨rfl, _, SqL.of hp3⟩, ?_⟩
      refine ⟨_, rfl, _, rfl, p, _, rfl, .inl (SqL.of hp3), ?_⟩
      rw [txs_len]
      refine ⟨f, c, (rs.length : Int), rfl, hF3.2, by omega, by omega, fun d H4 d0 d1 hB => ?_⟩
      have hp4 := hB.1 _ _ hpf.1 hpf.2 hp3
      have hq4 := hB.1 _ _ hqf.1 hqf.2 hq3
      have hF4 := hF3.trans hB
      have hd : d.toNat < rs.length := by omega
      refine ⟨p, txs rs, d, d.toNat, .str (S rs[d.toNat]), rfl, rfl, hp4, by omega, by omega, by rw [txs_len]; exact PySem.seqIndex_of d0 (by omega), ?_, ?_⟩
      · unfold txs; rw [List.getElem?_map, List.getElem?_eq_getElem hd]; rfl
      refine ⟨q, txs fs, _, rfl, rfl, by rw [upd_ne hqp]; exact hq4, by rw [txs_len]; exact small1000 (by omega), ?_⟩
      have e1 : (txs rs).eraseIdx d.toNat = txs (rs.eraseIdx d.toNat) := eraseIdx_map' _ _ _
      have e2 : txs fs ++ [.str (S rs[d.toNat])] = txs (fs ++ [rs[d.toNat]]) := by unfold txs; rw [List.map_append]; rfl
      rw [e1, e2]
      refine ⟨rs.eraseIdx d.toNat, fs ++ [rs[d.toNat]], _, rfl, ?_, by simp [hfi], by rw [upd_ne hqp.symm, upd_same], upd_same, fx_own (fx_own hF4 hp) hq0⟩
      refine List.Perm.trans ?_ hperm
      refine List.Perm.trans ?_ (List.Perm.append_right fs (perm_at hd))
      rw [← List.append_assoc]
      exact List.perm_append_comm
    · rintro σ H3 ⟨rs, fs, s4, rfl, hperm, hfi, hp3, hq3, hF3⟩
      have hlen : rs.length + fs.length = xs.length := by rw [← List.length_append]; exact hperm.length_eq
      have hrs : rs = [] := List.length_eq_zero_iff.mp (by simp at hfi; omega)
      subst hrs
      refine ⟨_, rfl, ?_⟩
      exact k fs q H3 hperm hq0 hF3 hq3
end
end Toy
set_option maxHeartbeats 1000000
namespace Toy
open PySem L2 C8 SX LX
local macro_rules | `(tactic| walk_at "c") => `(tactic| refine And.intro (by first | (show (0 : Int) < _; omega) | exact Or.inr ⟨by decide, by decide⟩ | exact Or.inl ⟨by decide, by decide⟩ | (exact ⟨by omega, by omega⟩)) ?_)
local macro_rules | `(tactic| walk_at "s1") => `(tactic| first | refine ⟨_, rfl, ?_⟩ | refine ⟨_, _, rfl, rfl, ?_⟩ | refine .inl ⟨_, rfl, ?_⟩ | walk_at "c")
local macro_rules | `(tactic| walk_at "s") => `(tactic| repeat (walk_at "s1"))
theorem s_nil : (Str.ofString "") = S [] := by decide +kernel
def Sg (sg : List Nat) : Prop := sg.Pairwise (· < ·) ∧ 1 ≤ sg.length ∧ sg.length ≤ 3 ∧ ∀ c ∈ sg, 97 ≤ c ∧ c ≤ 122
theorem txs_get {ims : List (List Nat)} {i : Nat} {x : V} (h : (txs ims)[i]? = some x) : ∃ l, ims[i]? = some l ∧ x = .str (S l) := by
  unfold txs at h
  rw [List.getElem?_map] at h
  cases q : ims[i]? with
  | none => rw [q] at h; cases h
  | some l => rw [q] at h; exact ⟨l, rfl, (Option.some.inj h).symm⟩
theorem txs_of {ims : List (List Nat)} {f : List Nat → List Nat} {ys : List V} (hl : ys.length = (txs ims).length) (h : ∀ (j : Nat) y, ys[j]? = some y → ∀ l, ims[j]? = some l → y = .str (S (f l))) : ys = txs (ims.map f) := by
  have e : txs (ims.map f) = ims.map fun l => V.str (S (f l)) := by unfold txs; rw [List.map_map]; rfl
  rw [e]
  exact list_map (by rw [hl, txs_len]) fun j y l e1 e2 => h j y e1 l e2
theorem keep_fx {f c : Addr} {H1 : Hp} (h : FlowAt f c H1) : Keep (Fx f c) H1 where
  refl := Fx.refl h
  trans := fun _ _ p q => p.trans q
  put := fun H D o s hD => fx_own s hD (flow_ne h hD)
  get := fun H H' D o s hD _ e => s.1 _ _ (flow_ne h hD).1 (flow_ne h hD).2 e
section
variable {P : Program} {w : World} {K : PySem.W.Frag} {mg : Str → Option Value} {base : Heap}
def alph : List (List Nat) := [[97, 98, 99], [97, 98, 122], [120, 121, 122], [97, 109, 110], [98, 99, 100]]
theorem s_abc : (Str.ofString "abc") = S [97, 98, 99] := by decide +kernel
theorem s_abz : (Str.ofString "abz") = S [97, 98, 122] := by decide +kernel
theorem s_xyz : (Str.ofString "xyz") = S [120, 121, 122] := by decide +kernel
theorem s_amn : (Str.ofString "amn") = S [97, 109, 110] := by decide +kernel
theorem s_bcd : (Str.ofString "bcd") = S [98, 99, 100] := by decide +kernel
theorem alph_sg : ∀ l ∈ alph, l.Pairwise (· < ·) ∧ l.length = 3 ∧ ∀ c ∈ l, 97 ≤ c ∧ c ≤ 122 := by decide
theorem sg_take {l : List Nat} (h : l ∈ alph) {d : Nat} (h1 : 1 ≤ d) (h3 : d ≤ 3) : Sg (l.take d) := by
  obtain ⟨a, b, c⟩ := alph_sg l h
  refine ⟨a.sublist (List.take_sublist _ _), ?_, ?_, fun x hx => c x (List.mem_of_mem_take hx)⟩
  · rw [List.length_take]; omega
  · rw [List.length_take]; omega
abbrev s_letters : Stmt := top 39
abbrev n_letters : List Str := ["flow", "most", "some"]
theorem sc_letters : FnScope n_letters ["flow", "most"] (fnScope s_letters) := fnScope_by (by decide +kernel)
def spLetters : Sp := fun vs H Q _ => ∃ (f c : Addr) (m : Nat), vs = [.ref f, .int m] ∧ FlowAt f c H ∧ 1 ≤ m ∧ m ≤ 3 ∧
  ∀ (sg : List Nat) (H' : Hp), Sg sg → sg.length ≤ m → Fx f c H H' → Q (.str (S sg)) H'
theorem ok_letters (T : BT mg) (c_less : Cal P w K mg base 1 "_law_less" spLess []) (c_anyof : Cal P w K mg base 2 "_law_any_of" (spAny K) []) {g : Addr} {fd : FuncData} (F : Def K mg "_law_letters" s_letters g fd) (b : Binds K fd ["flow", "most"] []) : Cal P w K mg base 3 "_law_letters" spLetters [] := by
  refine cal0 F b .nil sc_letters (fun vs H Q E h => ?_) (fun cdv A outer s H vs Q E hr h => ?_)
  · obtain ⟨f, c, m, rfl, _⟩ := h; rfl
  · obtain ⟨f, c, m, rfl, hf, m1, m3, k⟩ := h
    refine ⟨_, (pss_cons (ps_set (i := 2) sc_letters.nd rfl (.inl rfl) (pe_c c_anyof hr (by first | decide | omega) (by rfl) (pa_cons (pv 0) (pa_cons (pe_lst (pa_cons pe_str (pa_cons pe_str (pa_cons pe_str (pa_cons pe_str (pa_cons pe_str pa_nil)))))) pa_nil))))
      (pss_one (ps_ret (pe_slice sl_txt (pv 2) po_none (po_some (pe_op op_add pe_int (pe_c c_less hr (by first | decide | omega) (by rfl) (pa_cons (pv 0) (pa_cons (pv 1) pa_nil)))))))
      )), ?_⟩
    refine ⟨_, rfl, ?_⟩
    refine ⟨by decide, fun p hp => ?_⟩
    have hpn := flow_ne hf hp
    have hF1 : Fx f c H (upd H p (.lst [.str (Str.ofString "abc"), .str (Str.ofString "abz"), .str (Str.ofString "xyz"), .str (Str.ofString "amn"), .str (Str.ofString "bcd")])) := (Fx.refl hf).put hp hp
    refine ⟨f, c, .ref p, txs alph, rfl, hF1.2, fun q e => by cases e; exact hpn, .inl ⟨p, rfl, .inl (SqL.of (by rw [upd_same, s_abc, s_abz, s_xyz, s_amn, s_bcd]; rfl))⟩, by decide, by decide, fun v H1 hv hB => ?_⟩
    obtain ⟨l, hl, rfl⟩ := List.mem_map.mp hv
    have hF2 := hF1.trans hB
    walk_at "s"
    refine nil1 ⟨f, c, (m : Int), rfl, hF2.2, by omega, by omega, fun d H3 d0 d1 hB2 => ?_⟩
    refine ⟨1, d, rfl, rfl, ?_⟩
    refine ⟨_, rfl, ?_⟩
    have hl3 : l.length = 3 := (alph_sg l hl).2.1
    refine ⟨S l, rfl, by rw [S_len]; exact le1000 (by omega), ?_⟩
    rw [slice_to (by omega)]
    refine k _ _ (sg_take hl (by omega) (by omega)) ?_ (hF2.trans hB2)
    rw [List.length_take]; omega
def Ov (sg l : List Nat) : Prop := ∀ c ∈ l, c ∈ sg
theorem singles_join : ∀ (ys : List V) (m : Nat) (sg : List Nat), ys.length = m → (∀ (j : Nat) y, ys[j]? = some y → ∃ c ∈ sg, y = .str (S [c])) → ∃ l : List Nat, l.length = m ∧ Ov sg l ∧ ys = (l.map fun c => V.str (S [c]))
  | [], m, sg, e, _ => ⟨[], e, (fun _ h => nomatch h), rfl⟩
  | y :: ys, m, sg, e, h => by
    obtain ⟨l, e1, o1, e2⟩ := singles_join ys (m - 1) sg (by simp at e; omega) fun j z q => h (j + 1) z q
    obtain ⟨c, hc, ec⟩ := h 0 y rfl
    refine ⟨c :: l, by simp at e ⊢; omega, fun d hd => ?_, by rw [ec, e2]; rfl⟩
    rcases List.mem_cons.mp hd with rfl | hd
    · exact hc
    · exact o1 d hd
abbrev s_line : Stmt := top 44
abbrev n_line : List Str := ["flow", "signs_here", "most", "turn"]
theorem sc_line : FnScope n_line ["flow", "signs_here", "most"] (fnScope s_line) := fnScope_by (by decide +kernel)
def spLine : Sp := fun vs H Q _ => ∃ (f c : Addr) (sg : List Nat) (m : Nat), vs = [.ref f, .str (S sg), .int m] ∧ FlowAt f c H ∧ 1 ≤ sg.length ∧ sg.length ≤ 3 ∧ m ≤ 100 ∧
  ∀ (l : List Nat) (H' : Hp), Ov sg l → l.length ≤ m → Fx f c H H' → Q (.str (S l)) H'
theorem ok_line (T : BT mg) (c_less : Cal P w K mg base 1 "_law_less" spLess []) (c_anyof : Cal P w K mg base 2 "_law_any_of" (spAny K) []) {g : Addr} {fd : FuncData} (F : Def K mg "_law_line" s_line g fd) (b : Binds K fd ["flow", "signs_here", "most"] []) : Cal P w K mg base 3 "_law_line" spLine [] := by
  refine cal0 F b .nil sc_line (fun vs H Q E h => ?_) (fun cdv A outer s H vs Q E hr h => ?_)
  · obtain ⟨f, c, sg, m, rfl, _⟩ := h; rfl
  · obtain ⟨f, c, sg, m, rfl, hf, s1, s3, m100, k⟩ := h
    refine ⟨_, (pss_one (ps_ret (pe_join pe_str (pe_lc (own := [("turn", 3)]) rfl sc_line.nd (pi_range1 (by rfl) T.m_range (pa_cons (pe_c c_less hr (by first | decide | omega) (by rfl) (pa_cons (pv 0) (pa_cons (pe_op op_add (pv 2) pe_int) pa_nil))) pa_nil)) (blkOk_by (N := n_line) (sc := fnScope s_line) (by decide +kernel)) (fun _ _ _ _ _ => (pg_name (i := 3) sc_line.nd rfl (.inl rfl))) (fun _ _ _ _ _ => pts_nil) (fun _ _ _ _ _ => (pe_c c_anyof hr (by first | decide | omega) (by rfl) (pa_cons (pv 0) (pa_cons (pv 1) pa_nil)))))))
      ), ?_⟩
    refine ⟨⟨_, rfl⟩, ?_⟩
    walk_at "s"
    refine ⟨f, c, (m : Int) + 1, rfl, hf, by omega, by omega, fun d H1 d0 d1 hB => ?_⟩
    refine ⟨_, rfl, by omega, by omega, fun D hD => ?_⟩
    refine lc_keep (keep_fx hB.2) (walk_range (lo := 0) (n := d.toNat)) hD (by show d.toNat < sizeLine; exact small1000 (by omega)) (fun _ y => ∃ c ∈ sg, y = .str (S [c])) (fun _ _ => trivial) (fun i x H2 H3 R hi r hy hR => ?_) (fun ys H2 hl hg r hDs => ?_)
    · obtain ⟨rfl, rfl⟩ := hy
      refine ⟨rfl, ?_⟩
      refine ⟨_, rfl, _, rfl, ?_⟩
      refine ⟨f, c, .str (S sg), _, rfl, r.2, (fun _ e => nomatch e), .inr ⟨sg, rfl, le1000 (by omega), rfl⟩, by rw [List.length_map]; omega, by rw [List.length_map]; omega, fun v H4 hv hB4 => ?_⟩
      refine hR v H4 hB4 ?_
      obtain ⟨c, hc, rfl⟩ := List.mem_map.mp hv
      exact ⟨c, hc, rfl⟩
    · obtain ⟨l, hl2, ho, rfl⟩ := singles_join ys _ sg hl hg
      refine ⟨_, D, (l.map fun c => S [c]), rfl, rfl, .inl (SqL.of (by rw [List.map_map]; exact hDs)), ?_, ?_⟩
      · rw [sums_singles, s_nil, S_len]; simp only [List.length_nil, Nat.mul_zero, Nat.add_zero]; exact le1000 (by omega)
      · show Q (.str (Txt.join (Str.ofString "") (l.map fun c => S [c]))) H2
        rw [s_nil, join_singles]
        exact k l _ ho (by omega) (hB.trans r)
theorem cut_inz (ns : List Int) (lo hi : Option Int) : ∃ ms : List Int, cutV (inz ns) lo hi = inz ms ∧ ms.length ≤ ns.length := by
  unfold cutV
  rw [inz_len]
  refine ⟨(ns.drop (HT.sIx ns.length 0 lo)).take (HT.sIx ns.length ns.length hi - HT.sIx ns.length 0 lo), ?_, ?_⟩
  · unfold inz; rw [List.map_take, List.map_drop]
  · rw [List.length_take, List.length_drop]; omega
abbrev s_flow : Stmt := top 35
abbrev n_flow : List Str := ["script", "base", "cells", "stirred", "cell"]
theorem sc_flow : FnScope n_flow ["script", "base"] (fnScope s_flow) := fnScope_by (by decide +kernel)
def spFlow : PySem.W.Frag → Sp := fun K vs H Q _ => ∃ (a : Addr) (k : Nat) (ns : List Int), vs = [.ref a, .int k] ∧ SqL K H a (ns.map V.int) ∧ ns.length ≤ 63 ∧ k ≤ 10 ∧
  ∀ (f c : Addr) (H' : Hp), Same H H' → H f = none → H c = none → FlowAt f c H' → Q (.ref f) H'
theorem ok_flow (T : BT mg) {g : Addr} {fd : FuncData} (F : Def K mg "_law_flow" s_flow g fd) (b : Binds K fd ["script", "base"] []) : Cal P w K mg base 1 "_law_flow" (spFlow K) [] := by
  refine cal0 F b .nil sc_flow (fun vs H Q E h => ?_) (fun cdv A outer s H vs Q E hr h => ?_)
  · obtain ⟨a, k, ns, rfl, _⟩ := h; rfl
  · obtain ⟨a, k, ns, rfl, ha, hl, hk, kk⟩ := h
    refine ⟨_, (pss_cons (ps_par (i := 2) (j := 3) rfl sc_flow.nd rfl rfl (by decide) rfl rfl (pa_cons (pe_lc (own := [("cell", 4)]) rfl sc_flow.nd (pi_list (pe_slice sl_list (pv 0) (po_some (pv 1)) (po_some pe_int))) (blkOk_by (N := n_flow) (sc := fnScope s_flow) (by decide +kernel)) (fun _ _ _ _ _ => (pg_name (i := 4) sc_flow.nd rfl (.inl rfl))) (fun _ _ _ _ _ => pts_nil) (fun _ _ _ _ _ => (pe_callB call_abs (by rfl) T.m_abs PyProof.Rows.boot_abs (pa_cons (pe_callTy call_int1 (by rfl) T.m_int PyProof.Rows.boot_int (pa_cons (pv 4) pa_nil)) pa_nil)))) (pa_cons (pe_op op_add pe_int (pe_op op_mul pe_int (pv 1))) pa_nil)) rfl)
      (pss_cons (ps_for PassesOwn.never rfl (pi_list (pv 2)) (pg_name (i := 4) sc_flow.nd rfl (.inl rfl)) 
        (pss_one (ps_set (i := 3) sc_flow.nd rfl (.inl rfl) (pe_op op_mod (pe_callTy call_int1 (by rfl) T.m_int PyProof.Rows.boot_int (pa_cons (pe_op op_add (pe_op op_add (pe_op op_mul (pv 3) pe_int) (pe_op op_mod (pe_callTy call_int1 (by rfl) T.m_int PyProof.Rows.boot_int (pa_cons (pv 4) pa_nil)) pe_int)) pe_int) pa_nil)) pe_int))
        ))
      (pss_one (ps_ret (pe_lst (pa_cons (pe_revLX K (pe_lc (own := [("cell", 4)]) rfl sc_flow.nd (pi_list (pv 2)) (blkOk_by (N := n_flow) (sc := fnScope s_flow) (by decide +kernel)) (fun _ _ _ _ _ => (pg_name (i := 4) sc_flow.nd rfl (.inl rfl))) (fun _ _ _ _ _ => pts_one (pt_cmpR op_ge (pv 4) (pe_op op_pow pe_int pe_int) (nomark _))) (fun _ _ _ _ _ => (pv 4))) (pe_op op_sub pe_int pe_int)) (pa_cons (pv 3) (pa_cons pe_int pa_nil)))))
      ))), ?_⟩
    refine ⟨_, rfl, _, rfl, ⟨(k : Int), rfl, ?_⟩⟩
    obtain ⟨ms, ecut, hml⟩ := cut_inz ns (some (k : Int)) (some 58)
    refine ⟨58, rfl, a, _, rfl, ha, fun q hq => ?_⟩
    rw [show cutV (ns.map V.int) (some (k : Int)) (some 58) = inz ms from ecut]
    refine ⟨q, rfl, ⟨_, SqL.of upd_same⟩, fun D hD => lc_keep keep_same (walk_list (K := K) (a := q) (xs := inz ms)) hD (by rw [inz_len]; exact small1000 (by omega)) (fun _ y => ∃ z : Int, y = .int z) (fun H r => SqL.of (r _ _ upd_same)) (fun i x H3 H4 R hi r hy hR => ?_) (fun ys H3 hly hg r hDs => ?_)⟩
    · obtain ⟨rfl, e⟩ := hy
      obtain ⟨z, hz, rfl⟩ := inz_get e
      refine ⟨rfl, ?_⟩
      walk_at "s"
      exact hR _ _ (Same.refl _) ⟨_, rfl⟩
    obtain ⟨cs, rfl⟩ := inz_of hg
    have hcl : cs.length ≤ 63 := by rw [inz_len, inz_len] at hly; omega
    have r0 : Same H H3 := (sm_new hq).trans r
    have hD0 : H D = none := by
      cases z : H D with
      | none => rfl
      | some o => rw [sm_new hq _ _ z] at hD; cases hD
    walk_at "s"
    refine ⟨_, _, rfl, ?_⟩
    refine ⟨_, rfl, D, rfl, ⟨_, SqL.of hDs⟩, for_it (walk_list (K := K) (a := D) (xs := inz cs)) (fun i σ H' => H' = H3 ∧ ∃ (s : Int) (s4 : Option V), σ = [some (.ref a), some (.int k), some (.ref D), some (.int s), s4])
      ⟨rfl, _, _, rfl⟩ (fun _ _ _ _ ⟨e, _⟩ => by rw [e]; exact SqL.of hDs) ?_ ?_⟩
    · rintro i x σ H4 H4' hi ⟨rfl, s, s4, rfl⟩ ⟨rfl, hx⟩
      obtain ⟨z, hz, rfl⟩ := inz_get hx
      walk_at "s"
      exact ⟨rfl, _, _, rfl⟩
    · rintro σ H4 ⟨rfl, s, s4, rfl⟩
      refine ⟨_, rfl, D, rfl, ⟨_, SqL.of hDs⟩, fun D2 hD2 => ?_⟩
      refine lc_keepF keep_same (walk_list (K := K) (a := D) (xs := inz cs)) hD2 (by rw [inz_len]; exact small1000 (by omega)) (fun i => decide ((10 : Int) ^ (18 : Int).toNat ≤ cs.getD i 0)) (fun _ y _ => ∃ z : Int, y = .int z) (fun H r => SqL.of (r _ _ hDs)) (fun _ _ _ _ _ _ h => h) (fun _ _ _ _ _ _ _ h => h)
        (fun j x H5 H6 acc N R hj r5 hDa hy hR hN => ?_) (fun ys H5 hly2 hg2 r5 hDs2 => ?_)
      · obtain ⟨rfl, e⟩ := hy
        obtain ⟨z, hz, rfl⟩ := inz_get e
        have hzd : cs.getD j 0 = z := by rw [List.getD_eq_getElem?_getD, hz]; rfl
        refine ⟨rfl, ?_⟩
        walk_at "s"
        cases hq : decide ((10 : Int) ^ (18 : Int).toNat ≤ z) with
        | true => exact iteB rfl ⟨_, rfl, hR (by show decide ((10 : Int) ^ (18 : Int).toNat ≤ cs.getD j 0) = true; rw [hzd]; exact hq) _ _ (Same.refl _) ⟨_, rfl⟩⟩
        | false => exact iteN rfl (hN (by show decide ((10 : Int) ^ (18 : Int).toNat ≤ cs.getD j 0) = false; rw [hzd]; exact hq) _ (Same.refl _))
      · obtain ⟨ds, rfl⟩ := inz_of (ys := ys) fun j y e => by
          have hj : j < ys.length := (List.getElem?_eq_some_iff.mp e).1
          exact hg2 j _ y (List.getElem?_eq_getElem (by omega)) e
        have hdl : ds.length ≤ 63 := by
          rw [inz_len] at hly2
          have := takenN_le (ok := fun i => decide ((10 : Int) ^ (18 : Int).toNat ≤ cs.getD i 0)) (n := (inz cs).length)
          rw [inz_len] at this hly2
          omega
        refine ⟨0, 1, rfl, rfl, ?_⟩
        refine ⟨_, rfl, rfl, D2, _, rfl, SqL.of hDs2, fun p hp => ?_⟩
        have er : (inz ds).reverse = inz ds.reverse := by unfold inz; rw [List.map_reverse]
        rw [er]
        refine ⟨_, rfl, ?_⟩
        refine ⟨by show 3 ≤ sizeLine; decide, fun f hf => ?_⟩
        have hpf : f ≠ p := fun e => by rw [e, upd_same] at hf; cases hf
        have hf5 : H5 f = none := by rw [upd_ne hpf] at hf; exact hf
        have r6 := r0.trans r5
        have fr : ∀ x, H5 x = none → H x = none := fun x hx => by
          cases z : H x with
          | none => rfl
          | some o => rw [r6 _ _ z] at hx; cases hx
        refine kk f p _ (sm_put (sm_put r6 (fr p hp)) (fr f hf5)) (fr f hf5) (fr p hp) ⟨hpf, ⟨_, _, upd_same⟩, ds.reverse, by rw [upd_ne hpf.symm, upd_same], by rw [List.length_reverse]; exact hdl⟩
end
end Toy
set_option maxHeartbeats 1000000
namespace Toy
open PySem L2 C8 SX LX
local macro_rules | `(tactic| walk_at "c") => `(tactic| refine And.intro (by first | (show (0 : Int) < _; omega) | exact Or.inr ⟨by decide, by decide⟩ | exact Or.inl ⟨by decide, by decide⟩ | (exact ⟨by omega, by omega⟩)) ?_)
local macro_rules | `(tactic| walk_at "s1") => `(tactic| first | refine ⟨_, rfl, ?_⟩ | refine ⟨_, _, rfl, rfl, ?_⟩ | refine .inl ⟨_, rfl, ?_⟩ | walk_at "c")
local macro_rules | `(tactic| walk_at "s") => `(tactic| repeat (walk_at "s1"))
section
variable {P : Program} {w : World} {K : PySem.W.Frag} {mg : Str → Option Value} {base : Heap}
def names5 : List (List Nat) := [[110, 111], [121, 101, 115], [109, 97], [111, 100, 100], [102, 97, 114]]
theorem s_no : (Str.ofString "no") = S [110, 111] := by decide +kernel
theorem s_yes : (Str.ofString "yes") = S [121, 101, 115] := by decide +kernel
theorem s_ma : (Str.ofString "ma") = S [109, 97] := by decide +kernel
theorem s_odd : (Str.ofString "odd") = S [111, 100, 100] := by decide +kernel
theorem s_far : (Str.ofString "far") = S [102, 97, 114] := by decide +kernel
def ky (m : List Nat) (c : Nat) : List Key := [.inr (S m), .inr (S [c])]
def Dn (ms : List (List Nat)) (sg : List Nat) (i j : Nat) (kvs : List (List Key × V)) : Prop :=
  ∀ (a b : Nat) (m : List Nat) (c : Nat), ms[a]? = some m → sg[b]? = some c → (a < i ∨ (a = i ∧ b < j)) → ∃ x ∈ ms, valV kvs (ky m c) = some (.str (S x))
def Full (ms : List (List Nat)) (sg : List Nat) (kvs : List (List Key × V)) : Prop := ∀ m ∈ ms, ∀ c ∈ sg, ∃ x ∈ ms, valV kvs (ky m c) = some (.str (S x))
theorem at_first {α : Type} {xs : List α} {c : α} (h : xs[0]? = some c) : atI xs 0 = some c := by
  have h0 : 0 < xs.length := (List.getElem?_eq_some_iff.mp h).1
  unfold atI ixN
  rw [if_pos (by decide), if_pos (by omega)]
  exact h
theorem ky_inj {m m' : List Nat} {c c' : Nat} (h : ky m c = ky m' c') : m = m' ∧ c = c' := by
  unfold ky at h
  simp only [List.cons.injEq, Sum.inr.injEq, and_true] at h
  have e1 := S_inj h.1
  have e2 := S_inj h.2
  exact ⟨e1, by simpa using e2⟩
theorem Dn.put {ms : List (List Nat)} {sg : List Nat} {i j : Nat} {kvs : List (List Key × V)} (h : Dn ms sg i j kvs) {m x : List Nat} {c : Nat} (hm : ms[i]? = some m) (hc : sg[j]? = some c) (hx : x ∈ ms) : Dn ms sg i (j + 1) (putK kvs (ky m c) (.str (S x))) := by
  intro a b m' c' ha hb hab
  rw [valV_put]
  by_cases e : ky m' c' = ky m c
  · exact ⟨x, hx, by rw [if_pos e]⟩
  · rw [if_neg e]
    refine h a b m' c' ha hb ?_
    rcases hab with h1 | ⟨rfl, h2⟩
    · exact .inl h1
    · refine .inr ⟨rfl, ?_⟩
      rcases Nat.lt_or_ge b j with h3 | h3
      · exact h3
      · exfalso
        have : b = j := by omega
        subst this
        rw [ha] at hm; rw [hb] at hc
        cases hm; cases hc
        exact e rfl
theorem Dn.row {ms : List (List Nat)} {sg : List Nat} {i : Nat} {kvs : List (List Key × V)} (h : Dn ms sg i sg.length kvs) : Dn ms sg (i + 1) 0 kvs := by
  intro a b m c ha hb hab
  refine h a b m c ha hb ?_
  have hb' := (List.getElem?_eq_some_iff.mp hb).1
  omega
theorem Dn.full {ms : List (List Nat)} {sg : List Nat} {kvs : List (List Key × V)} (h : Dn ms sg ms.length 0 kvs) : Full ms sg kvs := by
  intro m hm c hc
  obtain ⟨a, ha⟩ := List.mem_iff_getElem?.mp hm
  obtain ⟨b, hb⟩ := List.mem_iff_getElem?.mp hc
  exact h a b m c ha hb (.inl (List.getElem?_eq_some_iff.mp ha).1)
theorem Full.put {ms : List (List Nat)} {sg : List Nat} {kvs : List (List Key × V)} (h : Full ms sg kvs) {m x : List Nat} {c : Nat} (hx : x ∈ ms) : Full ms sg (putK kvs (ky m c) (.str (S x))) := by
  intro m' hm c' hc
  rw [valV_put]
  by_cases e : ky m' c' = ky m c
  · exact ⟨x, hx, by rw [if_pos e]⟩
  · rw [if_neg e]; exact h m' hm c' hc
abbrev s_draft : Stmt := top 40
abbrev n_draft : List Str := ["flow", "signs_here", "most", "marks_here", "goes", "form", "mark", "sign", "turned", "other"]
theorem sc_draft : FnScope n_draft ["flow", "signs_here", "most"] (fnScope s_draft) := fnScope_by (by decide +kernel)
structure Draft (K : PySem.W.Frag) (H : Hp) (q pm pd : Addr) (ms : List (List Nat)) (b : List Nat) (sg : List Nat) (kvs : List (List Key × V)) : Prop where
  top : H q = some (.tup [.ref pm, .str (S b), .ref pd])
  marks : H pm = some (.tup (txs ms))
  goes : H pd = some (.dT kvs)
  full : Full ms sg kvs
  few : kvs.length ≤ 30
  first : b ∈ ms
  nd : ms.Nodup
  nm : ∀ m ∈ ms, m ∈ names5
  pos : 1 ≤ ms.length
def spDraft : PySem.W.Frag → Sp := fun K vs H Q _ => ∃ (f c : Addr) (sg : List Nat) (m : Nat), vs = [.ref f, .str (S sg), .int m] ∧ FlowAt f c H ∧ 1 ≤ sg.length ∧ sg.length ≤ 3 ∧ 1 ≤ m ∧ m ≤ 5 ∧
  ∀ (q pm pd : Addr) (ms : List (List Nat)) (b : List Nat) (kvs : List (List Key × V)) (H' : Hp), Fx f c H H' → H q = none → H pm = none → H pd = none → Draft K H' q pm pd ms b sg kvs → ms.length ≤ m → Q (.ref q) H'
theorem ok_draft (T : BT mg) (c_less : Cal P w K mg base 1 "_law_less" spLess []) (c_anyof : Cal P w K mg base 2 "_law_any_of" (spAny K) []) (c_shaken : Cal P w K mg base 2 "_law_shaken" (spShaken K) []) {g : Addr} {fd : FuncData} (F : Def K mg "_law_draft" s_draft g fd) (b : Binds K fd ["flow", "signs_here", "most"] []) : Cal P w K mg base 3 "_law_draft" (spDraft K) [] := by
  refine cal0 F b .nil sc_draft (fun vs H Q E h => ?_) (fun cdv A outer s H vs Q E hr h => ?_)
  · obtain ⟨f, c, sg, m, rfl, _⟩ := h; rfl
  · obtain ⟨f, c, sg, m, rfl, hf, s1, s3, m1, m5, k⟩ := h
    refine ⟨_, (pss_cons (ps_set (i := 3) sc_draft.nd rfl (.inl rfl) (pe_slice sl_list (pe_c c_shaken hr (by first | decide | omega) (by rfl) (pa_cons (pv 0) (pa_cons (pe_lst (pa_cons pe_str (pa_cons pe_str (pa_cons pe_str (pa_cons pe_str (pa_cons pe_str pa_nil)))))) pa_nil))) po_none (po_some (pe_op op_add pe_int (pe_c c_less hr (by first | decide | omega) (by rfl) (pa_cons (pv 0) (pa_cons (pv 2) pa_nil)))))))
      (pss_cons (ps_par (i := 4) (j := 5) rfl sc_draft.nd rfl rfl (by decide) rfl rfl (pa_cons pe_dnewT (pa_cons (pe_c c_less hr (by first | decide | omega) (by rfl) (pa_cons (pv 0) (pa_cons pe_int pa_nil))) pa_nil)) rfl)
      (pss_cons (ps_for PassesOwn.never rfl (pi_list (pv 3)) (pg_name (i := 6) sc_draft.nd rfl (.inl rfl)) 
        (pss_one (ps_for PassesOwn.never rfl (pi_str (pv 1)) (pg_name (i := 7) sc_draft.nd rfl (.inl rfl)) 
          (pss_one (ps_dput (hu_of hr) (pv 4) (pe_tup (pa_cons (pv 6) (pa_cons (pv 7) pa_nil))) (pe_c c_anyof hr (by first | decide | omega) (by rfl) (pa_cons (pv 0) (pa_cons (pv 3) pa_nil))) rfl)
          ))
        ))
      (pss_cons (ps_if (pt_cmpR op_eq (pv 5) pe_int (nomark _)) 
        (pss_cons (ps_set (i := 8) sc_draft.nd rfl (.inl rfl) (pe_c c_shaken hr (by first | decide | omega) (by rfl) (pa_cons (pv 0) (pa_cons (pv 3) pa_nil))))
        (pss_one (ps_for PassesOwn.never rfl (pi_zipX (by rfl) T.m_zip (pa_cons (pv 3) (pa_cons (pv 8) pa_nil))) (tupK K 2 (pgs_cons (pg_name (i := 6) sc_draft.nd rfl (.inl rfl)) (pgs_cons (pg_name (i := 9) sc_draft.nd rfl (.inl rfl)) pgs_nil))) 
          (pss_one (ps_dput (hu_of hr) (pv 4) (pe_tup (pa_cons (pv 6) (pa_cons (pe_ix ix_str (pv 1) pe_int (fun _ _ => rfl)) pa_nil))) (pv 9) rfl)
          ))
        ))
       pss_nil)
      (pss_one (ps_ret (pe_tup (pa_cons (pe_callTy (tupleK K) (by rfl) T.m_tuple PyProof.Rows.boot_tuple (pa_cons (pv 3) pa_nil)) (pa_cons (pe_c c_anyof hr (by first | decide | omega) (by rfl) (pa_cons (pv 0) (pa_cons (pv 3) pa_nil))) (pa_cons (pv 4) pa_nil)))))
      ))))), ?_⟩
    refine ⟨_, rfl, ?_⟩
    refine ⟨by decide, fun p hp => ?_⟩
    have hpn := flow_ne hf hp
    have hF1 : Fx f c H (upd H p (.lst [.str (Str.ofString "no"), .str (Str.ofString "yes"), .str (Str.ofString "ma"), .str (Str.ofString "odd"), .str (Str.ofString "far")])) := (Fx.refl hf).put hp hp
    refine ⟨f, c, p, names5, rfl, hF1.2, hpn, SqL.of (by rw [upd_same, s_no, s_yes, s_ma, s_odd, s_far]; rfl), by decide, fun ys p1 H1 hys hp1 hB1 hy1 => ?_⟩
    have hF2 := hF1.trans hB1
    have hlen5 : ys.length = 5 := hys.length_eq
    refine ⟨_, rfl, _, rfl, f, c, (m : Int), rfl, hF2.2, by omega, by omega, fun d H2 d0 d1 hB2 => ?_⟩
    refine ⟨1, d, rfl, rfl, ?_⟩
    refine ⟨_, rfl, ?_⟩
    have hp1n := flow_ne hF1.2 hp1
    have hy2 := hB2.1 _ _ hp1n.1 hp1n.2 hy1
    have hF3 := hF2.trans hB2
    refine ⟨p1, _, rfl, SqL.of hy2, fun pl hpl => ?_⟩
    have hplH := hF3.free hpl
    have hpln := flow_ne hf hplH
    have ecut : cutV (txs ys) none (some (1 + d)) = txs (ys.take (1 + d.toNat)) := by
      have : (1 + d : Int) = ((1 + d.toNat : Nat) : Int) := by omega
      rw [this]
      unfold cutV
      rw [HT.sIx_none, HT.sIx_nat, List.drop_zero, Nat.sub_zero, txs_len, Nat.min_eq_left (by omega)]
      unfold txs
      rw [← List.map_take]
    rw [ecut]
    have hms5 : ∀ z ∈ ys.take (1 + d.toNat), z ∈ names5 := fun z hz => hys.subset (List.mem_of_mem_take hz)
    have hnd : (ys.take (1 + d.toNat)).Nodup := (hys.nodup_iff.mpr (by decide)).sublist (List.take_sublist _ _)
    have hml : (ys.take (1 + d.toNat)).length = 1 + d.toNat := by rw [List.length_take]; omega
    generalize ys.take (1 + d.toNat) = ms at hms5 hnd hml
    have hF4 : Fx f c H (upd H2 pl (.lst (txs ms))) := fx_own hF3 hplH
    have hpl4 : (upd H2 pl (.lst (txs ms))) pl = some (.lst (txs ms)) := upd_same
    generalize upd H2 pl (.lst (txs ms)) = H4 at hF4 hpl4
    refine fun pd hpd => ?_
    have hpdH := hF4.free hpd
    have hpdn := flow_ne hf hpdH
    have hpdl : pd ≠ pl := (ne_of_none hpl4 hpd).symm
    have hF5 : Fx f c H (upd H4 pd (.dT [])) := fx_own hF4 hpdH
    have hpl5 : (upd H4 pd (.dT [])) pl = some (.lst (txs ms)) := by rw [upd_ne hpdl.symm]; exact hpl4
    have hpd5 : (upd H4 pd (.dT [])) pd = some (.dT []) := upd_same
    generalize upd H4 pd (.dT []) = H5 at hF5 hpl5 hpd5
    refine ⟨_, rfl, f, c, 4, rfl, hF5.2, by omega, by omega, fun fm H6 f0 f4 hB6 => ?_⟩
    refine ⟨_, _, rfl, ?_⟩
    have hF6 := hF5.trans hB6
    have hpl6 := hB6.1 _ _ hpln.1 hpln.2 hpl5
    have hpd6 := hB6.1 _ _ hpdn.1 hpdn.2 hpd5
    have hmle : ms.length ≤ 5 := by omega
    refine ⟨_, rfl, pl, rfl, ⟨_, SqL.of hpl6⟩, for_it (walk_list (K := K) (a := pl) (xs := txs ms)) (fun i σ H' => ∃ (kvs : List (List Key × V)) (s6 s7 : Option V), σ = [some (.ref f), some (.str (S sg)), some (.int m), some (.ref pl), some (.ref pd), some (.int fm), s6, s7, none, none] ∧
        Fx f c H H' ∧ H' pl = some (.lst (txs ms)) ∧ H' pd = some (.dT kvs) ∧ Dn ms sg i 0 kvs ∧ kvs.length ≤ 3 * i)
      ⟨[], _, _, rfl, hF6, hpl6, hpd6, fun a b m c _ _ h => by omega, Nat.zero_le _⟩ (fun _ _ _ _ ⟨_, _, _, _, _, e, _⟩ => SqL.of e) ?_ ?_⟩
    · rintro i x σ H7 H7' hi ⟨kvs, s6, s7, rfl, hF7, hpl7, hpd7, hdn, hkl⟩ ⟨rfl, hx⟩
      obtain ⟨mk, hmk, rfl⟩ := txs_get hx
      have hi5 : i < ms.length := (List.getElem?_eq_some_iff.mp hmk).1
      refine ⟨_, rfl, S sg, rfl, for_it walk_str (fun j σ H' => ∃ (kvs : List (List Key × V)) (s7 : Option V), σ = [some (.ref f), some (.str (S sg)), some (.int m), some (.ref pl), some (.ref pd), some (.int fm), some (.str (S mk)), s7, none, none] ∧
          Fx f c H H' ∧ H' pl = some (.lst (txs ms)) ∧ H' pd = some (.dT kvs) ∧ Dn ms sg i j kvs ∧ kvs.length ≤ 3 * i + j)
        ⟨kvs, _, rfl, hF7, hpl7, hpd7, hdn, hkl⟩ (fun _ _ _ _ _ => trivial) ?_ ?_⟩
      · rintro j x σ H8 H8' hj ⟨kvs, s7, rfl, hF8, hpl8, hpd8, hdn, hkl⟩ ⟨rfl, ch, hch, rfl⟩
        have hc' : sg[j]? = some ch := by simpa [S] using hch
        have hj3 : j < sg.length := (List.getElem?_eq_some_iff.mp hc').1
        refine ⟨_, rfl, _, rfl, f, c, .ref pl, txs ms, rfl, hF8.2, fun p e => by cases e; exact hpln, .inl ⟨pl, rfl, .inl (SqL.of hpl8)⟩, by rw [txs_len]; omega, by rw [txs_len]; omega, fun v H9 hv hB9 => ?_⟩
        obtain ⟨z, hz, rfl⟩ := List.mem_map.mp hv
        have hF9 := hF8.trans hB9
        have hpl9 := hB9.1 _ _ hpln.1 hpln.2 hpl8
        have hpd9 := hB9.1 _ _ hpdn.1 hpdn.2 hpd8
        refine ⟨_, rfl, _, rfl, _, rfl, ⟨by show 2 ≤ sizeLine; decide, fun t ht => ?_⟩⟩
        have htpl : pl ≠ t := ne_of_none hpl9 ht
        have htpd : pd ≠ t := ne_of_none hpd9 ht
        have hF10 := hF9.put (o := .tup [.str (S mk), .str (S [ch])]) ht (hF9.free ht)
        refine ⟨pd, _, rfl, DPut.t (k := ky mk ch) (by rw [upd_ne htpd]; exact hpd9) (by rw [upd_same]; rfl) (by show kvs.length < sizeLine; exact small1000 (by omega)), ?_⟩
        refine ⟨putK kvs (ky mk ch) (.str (S z)), _, rfl, fx_own hF10 hpdH, by rw [upd_ne hpdl.symm, upd_ne htpl]; exact hpl9, upd_same, hdn.put hmk hc' hz, ?_⟩
        have := length_putK kvs (ky mk ch) (.str (S z))
        omega
      · rintro σ H8 ⟨kvs, s7, rfl, hF8, hpl8, hpd8, hdn, hkl⟩
        have hdn' : Dn ms sg i sg.length kvs := hdn
        have hkl' : kvs.length ≤ 3 * i + sg.length := hkl
        exact ⟨kvs, _, _, rfl, hF8, hpl8, hpd8, hdn'.row, by omega⟩
    · rintro σ H7 ⟨kvs, s6, s7, rfl, hF7, hpl7, hpd7, hdn, hkl⟩
      have hfull : Full ms sg kvs := Dn.full (by rw [txs_len] at hdn; exact hdn)
      rw [txs_len] at hkl
      refine ⟨_, rfl, rfl, ?_⟩
      refine ⟨_, rfl, ?_⟩
      refine ite2 (fun _ => ?_) (fun _ => ?_)
      · refine ⟨_, rfl, _, rfl, f, c, pl, ms, rfl, hF7.2, hpln, SqL.of hpl7, by omega, fun ts pt H7' hperm hpt hB7 hpt7 => ?_⟩
        have hF7' := hF7.trans hB7
        have hpl7' := hB7.1 _ _ hpln.1 hpln.2 hpl7
        have hpd7' := hB7.1 _ _ hpdn.1 hpdn.2 hpd7
        have htl : ts.length = ms.length := hperm.length_eq
        refine ⟨_, rfl, _, rfl, .ref pl, .ref pt, .lst pl, .lst pt, rfl, rfl, rfl, ⟨_, SqL.of hpl7'⟩, ⟨_, SqL.of hpt7⟩, ?_⟩
        refine for_it (walk_zipX (K := K) (S1 := .lst pl) (S2 := .lst pt) (xs := txs ms) (ys := txs ts)) (fun i σ H' => ∃ (kvs : List (List Key × V)) (s6 s9 : Option V), σ = [some (.ref f), some (.str (S sg)), some (.int m), some (.ref pl), some (.ref pd), some (.int fm), s6, s7, some (.ref pt), s9] ∧
            Fx f c H H' ∧ H' pl = some (.lst (txs ms)) ∧ H' pt = some (.lst (txs ts)) ∧ H' pd = some (.dT kvs) ∧ Full ms sg kvs ∧ kvs.length ≤ 15 + i)
          ⟨kvs, _, _, rfl, hF7', hpl7', hpt7, hpd7', hfull, by omega⟩ (fun _ _ _ _ ⟨_, _, _, _, _, e1, e2, _⟩ => ⟨SqL.of e1, SqL.of e2⟩) ?_ ?_
        · rintro i x σ H8 H8' hi ⟨kvs, s6, s9, rfl, hF8, hpl8, hpt8, hpd8, hfull, hkl⟩ ⟨t, x1, x2, rfl, ht, rfl, e1, e2⟩
          obtain ⟨mm, hmm, rfl⟩ := txs_get e1
          obtain ⟨oo, hoo, rfl⟩ := txs_get e2
          obtain ⟨c0, hc0⟩ : ∃ c0, sg[0]? = some c0 := ⟨_, List.getElem?_eq_getElem (by omega)⟩
          have htpl : pl ≠ t := ne_of_none hpl8 ht
          have htpt : pt ≠ t := ne_of_none hpt8 ht
          have htpd : pd ≠ t := ne_of_none hpd8 ht
          have hF9 := hF8.put (o := .tup [.str (S mm), .str (S oo)]) ht (hF8.free ht)
          have ht9 : (upd H8 t (.tup [.str (S mm), .str (S oo)])) t = some (.tup [.str (S mm), .str (S oo)]) := upd_same
          have hpl9 : (upd H8 t (.tup [.str (S mm), .str (S oo)])) pl = some (.lst (txs ms)) := by rw [upd_ne htpl]; exact hpl8
          have hpt9 : (upd H8 t (.tup [.str (S mm), .str (S oo)])) pt = some (.lst (txs ts)) := by rw [upd_ne htpt]; exact hpt8
          have hpd9 : (upd H8 t (.tup [.str (S mm), .str (S oo)])) pd = some (.dT kvs) := by rw [upd_ne htpd]; exact hpd8
          generalize upd H8 t (.tup [.str (S mm), .str (S oo)]) = H9 at hF9 ht9 hpl9 hpt9 hpd9 ⊢
          refine ⟨t, _, rfl, .inl (.inl ht9), rfl, _, _, rfl, _, _, rfl, rfl, ?_⟩
          refine ⟨_, rfl, _, rfl, _, rfl, _, rfl, S sg, 0, c0, rfl, rfl, by rw [S_len]; exact le1000 (by omega), at_first (show (S sg).cps.toList[0]? = some c0 from hc0), ?_⟩
          refine ⟨by show 2 ≤ sizeLine; decide, fun u hu => ?_⟩
          have hupl : pl ≠ u := ne_of_none hpl9 hu
          have hupt : pt ≠ u := ne_of_none hpt9 hu
          have hupd : pd ≠ u := ne_of_none hpd9 hu
          have hF10 := hF9.put (o := .tup [.str (S mm), .str (S [c0])]) hu (hF9.free hu)
          have hptn : pt ≠ pd := fun e => by rw [e, hpd9] at hpt9; cases hpt9
          refine ⟨pd, _, rfl, DPut.t (k := ky mm c0) (by rw [upd_ne hupd]; exact hpd9) (by rw [upd_same]; rfl) (by show kvs.length < sizeLine; exact small1000 (by rw [txs_len] at hi; omega)), ?_⟩
          refine ⟨putK kvs (ky mm c0) (.str (S oo)), _, _, rfl, fx_own hF10 hpdH, by rw [upd_ne hpdl.symm, upd_ne hupl]; exact hpl9, by rw [upd_ne hptn, upd_ne hupt]; exact hpt9, upd_same, hfull.put (hperm.subset (List.mem_of_getElem? hoo)), ?_⟩
          have := length_putK kvs (ky mm c0) (.str (S oo))
          omega
        · rintro σ H8 ⟨kvs, s6, s9, rfl, hF8, hpl8, hpt8, hpd8, hfull, hkl⟩
          have hi5 : min (txs ms).length (txs ts).length ≤ 5 := by rw [txs_len, txs_len]; omega
          refine ⟨_, rfl, pl, _, rfl, .inl ⟨SqL.of hpl8, fun pm hpm => ?_⟩⟩
          have hpmH := hF8.free hpm
          have hpmn := flow_ne hf hpmH
          have hmpd : pd ≠ pm := ne_of_none hpd8 hpm
          have hmpl : pl ≠ pm := ne_of_none hpl8 hpm
          have hF9 : Fx f c H (upd H8 pm (.tup (txs ms))) := fx_own hF8 hpmH
          have hpm9 : (upd H8 pm (.tup (txs ms))) pm = some (.tup (txs ms)) := upd_same
          have hpd9 : (upd H8 pm (.tup (txs ms))) pd = some (.dT kvs) := by rw [upd_ne hmpd]; exact hpd8
          have hpl9 : (upd H8 pm (.tup (txs ms))) pl = some (.lst (txs ms)) := by rw [upd_ne hmpl]; exact hpl8
          generalize upd H8 pm (.tup (txs ms)) = H9 at hF9 hpm9 hpd9 hpl9
          refine ⟨_, rfl, _, rfl, f, c, .ref pl, txs ms, rfl, hF9.2, fun p e => by cases e; exact hpln, .inl ⟨pl, rfl, .inl (SqL.of hpl9)⟩, by rw [txs_len]; omega, by rw [txs_len]; omega, fun v H10 hv hB10 => ?_⟩
          obtain ⟨z, hz, rfl⟩ := List.mem_map.mp hv
          refine ⟨_, rfl, ?_⟩
          refine ⟨by show 3 ≤ sizeLine; decide, fun q hq => ?_⟩
          have hF10 := hF9.trans hB10
          have hqH := hF10.free hq
          have hqn := flow_ne hf hqH
          have hpm10 := hB10.1 _ _ hpmn.1 hpmn.2 hpm9
          have hpd10 := hB10.1 _ _ hpdn.1 hpdn.2 hpd9
          exact k q pm pd ms z kvs _ (fx_own hF10 hqH) hqH hpmH hpdH ⟨upd_same, by rw [upd_ne (ne_of_none hpm10 hq)]; exact hpm10, by rw [upd_ne (ne_of_none hpd10 hq)]; exact hpd10, hfull, by omega, hz, hnd, hms5, by omega⟩ (by omega)
      · refine nxt ?_
        dsimp only
        have hF8 := hF7
        have hpl8 := hpl7
        have hpd8 := hpd7
        clear hF7 hpl7 hpd7
        generalize H7 = H8 at hF8 hpl8 hpd8
        refine ⟨_, rfl, pl, _, rfl, .inl ⟨SqL.of hpl8, fun pm hpm => ?_⟩⟩
        have hpmH := hF8.free hpm
        have hpmn := flow_ne hf hpmH
        have hmpd : pd ≠ pm := ne_of_none hpd8 hpm
        have hmpl : pl ≠ pm := ne_of_none hpl8 hpm
        have hF9 : Fx f c H (upd H8 pm (.tup (txs ms))) := fx_own hF8 hpmH
        have hpm9 : (upd H8 pm (.tup (txs ms))) pm = some (.tup (txs ms)) := upd_same
        have hpd9 : (upd H8 pm (.tup (txs ms))) pd = some (.dT kvs) := by rw [upd_ne hmpd]; exact hpd8
        have hpl9 : (upd H8 pm (.tup (txs ms))) pl = some (.lst (txs ms)) := by rw [upd_ne hmpl]; exact hpl8
        generalize upd H8 pm (.tup (txs ms)) = H9 at hF9 hpm9 hpd9 hpl9
        refine ⟨_, rfl, _, rfl, f, c, .ref pl, txs ms, rfl, hF9.2, fun p e => by cases e; exact hpln, .inl ⟨pl, rfl, .inl (SqL.of hpl9)⟩, by rw [txs_len]; omega, by rw [txs_len]; omega, fun v H10 hv hB10 => ?_⟩
        obtain ⟨z, hz, rfl⟩ := List.mem_map.mp hv
        refine ⟨_, rfl, ?_⟩
        refine ⟨by show 3 ≤ sizeLine; decide, fun q hq => ?_⟩
        have hF10 := hF9.trans hB10
        have hqH := hF10.free hq
        have hqn := flow_ne hf hqH
        have hpm10 := hB10.1 _ _ hpmn.1 hpmn.2 hpm9
        have hpd10 := hB10.1 _ _ hpdn.1 hpdn.2 hpd9
        exact k q pm pd ms z kvs _ (fx_own hF10 hqH) hqH hpmH hpdH ⟨upd_same, by rw [upd_ne (ne_of_none hpm10 hq)]; exact hpm10, by rw [upd_ne (ne_of_none hpd10 hq)]; exact hpd10, hfull, by omega, hz, hnd, hms5, by omega⟩ (by omega)
end
end Toy
set_option maxHeartbeats 1000000
namespace Toy
open PySem L2 C8 SX LX
def leK (ms : List (List Nat)) (ad : List Nat → Addr) : List (Key × V) := ms.map fun m => (tk m, .ref (ad m))
def laK (sg : List Nat) (t : Nat → List Nat) : List (Key × V) := sg.map fun c => (tk [c], .str (S (t c)))
theorem ne_keys {x y : Str} (h : ¬ x = y) : ¬ (Sum.inr x : Key) = Sum.inr y := fun e => h (Sum.inr.inj e)
def ledTo (tg : List Nat → Nat → List Nat) (m : List Nat) (row : List Nat) : List Nat := row.foldl tg m
theorem led_in {sg : List Nat} {ms : List (List Nat)} {tg : List Nat → Nat → List Nat} (htg : ∀ m ∈ ms, ∀ c ∈ sg, tg m c ∈ ms) : ∀ {row : List Nat} {m : List Nat}, Ov sg row → m ∈ ms → ledTo tg m row ∈ ms
  | [], _, _, h => h
  | c :: row, m, ho, h => led_in htg (row := row) (fun d hd => ho d (List.mem_cons_of_mem _ hd)) (htg m h c (ho c List.mem_cons_self))
theorem all_true : ∀ {ys : List V}, (∀ (j : Nat) y, ys[j]? = some y → y = .bl true) → ys = (List.replicate ys.length true).map V.bl
  | [], _ => rfl
  | y :: ys, h => by
    rw [List.length_cons, List.replicate_succ, List.map_cons, ← all_true (ys := ys) fun j z e => h (j + 1) z e, h 0 y rfl]
theorem rep_all (n : Nat) : (List.replicate n true).all id = true := by simp
theorem cut_any (ys : List V) (k : Nat) : cutV ys none (some (k : Int)) = ys.take k := by
  unfold cutV
  rw [HT.sIx_none, HT.sIx_nat, List.drop_zero, Nat.sub_zero]
  rcases Nat.le_total k ys.length with h | h
  · rw [Nat.min_eq_left h]
  · rw [Nat.min_eq_right h, List.take_length, List.take_of_length_le h]
theorem int_at {ns : List Int} {i : Nat} (h : i < ns.length) : ∃ z : Int, (ns.map V.int)[i]? = some (.int z) := ⟨ns[i], by rw [List.getElem?_map, List.getElem?_eq_getElem h]; rfl⟩
end Toy
set_option maxHeartbeats 1000000
namespace Toy
open PySem L2 C8 SX LX
local macro_rules | `(tactic| walk_at "c") => `(tactic| refine And.intro (by first | (show (0 : Int) < _; omega) | exact Or.inr ⟨by decide, by decide⟩ | exact Or.inl ⟨by decide, by decide⟩ | (exact ⟨by omega, by omega⟩)) ?_)
local macro_rules | `(tactic| walk_at "s1") => `(tactic| first | refine ⟨_, rfl, ?_⟩ | refine ⟨_, _, rfl, rfl, ?_⟩ | refine .inl ⟨_, rfl, ?_⟩ | walk_at "c")
local macro_rules | `(tactic| walk_at "s") => `(tactic| repeat (walk_at "s1"))
section
variable {P : Program} {w : World} {K : PySem.W.Frag} {mg : Str → Option Value} {base : Heap}
abbrev s_isseq : Stmt := top 9
abbrev n_isseq : List Str := ["value"]
theorem sc_isseq : FnScope n_isseq ["value"] (fnScope s_isseq) := fnScope_by (by decide +kernel)
def spIsSeq : Sp := fun vs H Q _ => ∃ (p : Addr) (b : Bool) (xs : List V), vs = [.ref p] ∧ H p = some (seqB b xs) ∧ ∀ H', Same H H' → Q (.bl true) H'
theorem ok_isseq (T : BT mg) {f : Addr} {fd : FuncData} (F : Def K mg "is_sequence" s_isseq f fd) (b : Binds K fd ["value"] []) : Cal P w K mg base 1 "is_sequence" spIsSeq [] := by
  refine cal0 F b .nil sc_isseq (fun vs H Q E h => ?_) (fun cdv A outer s H vs Q E hr h => ?_)
  · obtain ⟨p, b, xs, rfl, _⟩ := h; rfl
  · obtain ⟨p, b, xs, rfl, hp, k⟩ := h
    refine ⟨_, (pss_one (ps_ret (pe_callB (isiTK K) (by rfl) T.m_isinstance PyProof.Rows.boot_isinstance (pa_cons (pv 0) (pa_cons (pe_tup (pa_cons (pe_bltn (v := .ty "list") (by rfl) T.m_list PyProof.Rows.boot_list rfl) (pa_cons (pe_bltn (v := .ty "tuple") (by rfl) T.m_tuple PyProof.Rows.boot_tuple rfl) pa_nil))) pa_nil))))
      ), ?_⟩
    walk_at "s"
    refine ⟨by decide, fun t ht => ?_⟩
    have hp2 := (sm_new (o := .tup [.ty "list", .ty "tuple"]) ht) _ _ hp
    cases b
    · exact ⟨_, t, _, _, _, true, rfl, upd_same, .cons (.ty _) (.cons (.ty _) .nil), .base (.tup hp2), kitAny_cons (b := false) (kit_ty (by decide +kernel)) (fun _ => kitAny_cons (b := true) (kit_ty (by decide +kernel)) (fun h => nomatch h) (fun _ => rfl)) (fun h => nomatch h), k _ (sm_new ht)⟩
    · exact ⟨_, t, _, _, _, true, rfl, upd_same, .cons (.ty _) (.cons (.ty _) .nil), .base (.lst hp2), kitAny_cons (b := true) (kit_ty (by decide +kernel)) (fun h => nomatch h) (fun _ => rfl), k _ (sm_new ht)⟩
abbrev s_isrow : Stmt := top 12
abbrev n_isrow : List Str := ["value", "signs"]
theorem sc_isrow : FnScope n_isrow ["value", "signs"] (fnScope s_isrow) := fnScope_by (by decide +kernel)
instance (sg l : List Nat) : Decidable (Ov sg l) := by unfold Ov; infer_instance
def spIsRow : Sp := fun vs H Q _ => ∃ (sg l : List Nat), vs = [.str (S l), .str (S sg)] ∧ l.length ≤ 1000 ∧ Q (.bl (decide (Ov sg l))) H
theorem ok_isrow (T : BT mg) {f : Addr} {fd : FuncData} (F : Def K mg "is_row" s_isrow f fd) (b : Binds K fd ["value", "signs"] []) : Cal P w K mg base 1 "is_row" spIsRow [] := by
  refine cal0 F b .nil sc_isrow (fun vs H Q E h => ?_) (fun cdv A outer s H vs Q E hr h => ?_)
  · obtain ⟨sg, l, rfl, _⟩ := h; rfl
  · obtain ⟨sg, l, rfl, hl, k⟩ := h
    refine ⟨_, (pss_one (ps_ret (pe_and (pe_callB (isiK K) (by rfl) T.m_isinstance PyProof.Rows.boot_isinstance (pa_cons (pv 0) (pa_cons (pe_bltn (v := .ty "str") (by rfl) T.m_str PyProof.Rows.boot_str rfl) pa_nil))) (pe_one (pe_cmpR op_eq (pe_bm PySem.F.plainAttrs_str PySem.F.slot_str_strip PySem.F.type_str_strip mt_stripChars (pv 0) (pa_cons (pv 1) pa_nil)) pe_str (nomark _)))))
      ), ?_⟩
    walk_at "s"
    refine ⟨_, _, _, _, true, rfl, .ty _, .base (.str _), kit_ty (by decide +kernel), true, rfl, ?_⟩
    refine iteT ?_
    refine ⟨_, rfl, rfl, _, rfl, S l, S sg, rfl, rfl, by rw [S_len]; exact sz hl (by decide), rfl, ?_⟩
    have e : V.bl (decide (V.str (Txt.stripChars (S l) (S sg)) = V.str (Str.ofString ""))) = V.bl (decide (Ov sg l)) := by
      rw [s_nil]
      refine congrArg V.bl (decide_eq_decide.mpr ?_)
      rw [V.str.injEq]
      exact strip_nil
    show Q (V.bl (decide (V.str (Txt.stripChars (S l) (S sg)) = V.str (Str.ofString "")))) H
    rw [e]
    exact k
abbrev s_isletters : Stmt := top 10
abbrev n_isletters : List Str := ["value"]
theorem sc_isletters : FnScope n_isletters ["value"] (fnScope s_isletters) := fnScope_by (by decide +kernel)
theorem ov_az {l : List Nat} : Ov az l ↔ ∀ c ∈ l, 97 ≤ c ∧ c ≤ 122 := ⟨fun h c hc => az_mem.mp (h c hc), fun h c hc => az_mem.mpr (h c hc)⟩
def spIsLetters : Sp := fun vs H Q _ => ∃ (l : List Nat), vs = [.str (S l)] ∧ l.length ≤ 1000 ∧ Q (.bl (decide (Ov az l))) H
theorem ok_isletters (T : BT mg) {tz : Tok} (mgZ : mg "_LETTERS" = some (.str (S az) tz)) (c_isrow : Cal P w K mg base 1 "is_row" spIsRow []) {f : Addr} {fd : FuncData} (F : Def K mg "is_letters" s_isletters f fd) (b : Binds K fd ["value"] []) : Cal P w K mg base 2 "is_letters" spIsLetters [] := by
  refine cal0 F b .nil sc_isletters (fun vs H Q E h => ?_) (fun cdv A outer s H vs Q E hr h => ?_)
  · obtain ⟨l, rfl, _⟩ := h; rfl
  · obtain ⟨l, rfl, hl, k⟩ := h
    refine ⟨_, (pss_one (ps_ret (pe_c c_isrow hr (by first | decide | omega) (by rfl) (pa_cons (pv 0) (pa_cons (pe_glob (v := .str (S az)) (by rfl) mgZ ⟨_, rfl⟩) pa_nil))))
      ), ?_⟩
    exact ⟨_, rfl, az, l, rfl, hl, k⟩
abbrev s_issigns : Stmt := top 11
abbrev n_issigns : List Str := ["value", "one", "other"]
theorem sc_issigns : FnScope n_issigns ["value"] (fnScope s_issigns) := fnScope_by (by decide +kernel)
def spIsSigns : Sp := fun vs H Q _ => ∃ (sg : List Nat), vs = [.str (S sg)] ∧ Sg sg ∧ ∀ H', Same H H' → Q (.bl true) H'
theorem sg_asc {sg : List Nat} (h : Sg sg) (i c d : Nat) (e1 : sg[i]? = some c) (e2 : sg[i + 1]? = some d) : c < d := by
  obtain ⟨a1, a2⟩ := List.getElem?_eq_some_iff.mp e1
  obtain ⟨b1, b2⟩ := List.getElem?_eq_some_iff.mp e2
  have := List.pairwise_iff_getElem.mp h.1 i (i + 1) a1 b1 (Nat.lt_succ_self i)
  rw [a2, b2] at this; exact this
theorem ok_issigns (T : BT mg) (c_isletters : Cal P w K mg base 2 "is_letters" spIsLetters []) {f : Addr} {fd : FuncData} (F : Def K mg "is_signs" s_issigns f fd) (b : Binds K fd ["value"] []) : Cal P w K mg base 3 "is_signs" spIsSigns [] := by
  refine cal0 F b .nil sc_issigns (fun vs H Q E h => ?_) (fun cdv A outer s H vs Q E hr h => ?_)
  · obtain ⟨sg, rfl, _⟩ := h; rfl
  · obtain ⟨sg, rfl, hm, k⟩ := h
    have hlen : 1 ≤ sg.length ∧ sg.length ≤ 3 := ⟨hm.2.1, hm.2.2.1⟩
    refine ⟨_, (pss_cons (ps_if (PW.pt (pw_or (pt_not (pt_val (pe_c c_isletters hr (by first | decide | omega) (by rfl) (pa_cons (pv 0) pa_nil)))) (pw_or (pt_cmpR op_lt (pe_callB call_len_str (by rfl) T.m_len PySem.boot_len (pa_cons (pv 0) pa_nil)) pe_int (nomark _)) (pw_or1 (pt_cmpR op_gt (pe_callB call_len_str (by rfl) T.m_len PySem.boot_len (pa_cons (pv 0) pa_nil)) pe_int (nomark _)))))) 
        (pss_one (ps_ret pe_bl)
        )
       pss_nil)
      (pss_one (ps_ret (pe_callB (cr_all rfl) (by rfl) T.m_all PyProof.Rows.boot_all (pa_cons (pe_lc (own := [("one", 1), ("other", 2)]) rfl sc_issigns.nd (pi_zipX (by rfl) T.m_zip (pa_cons (pv 0) (pa_cons (pe_slice sl_txt (pv 0) (po_some pe_int) po_none) pa_nil))) (blkOk_by (N := n_issigns) (sc := fnScope s_issigns) (by decide +kernel)) (fun _ _ _ _ _ => (tupK K 2 (pgs_cons (pg_name (i := 1) sc_issigns.nd rfl (.inl rfl)) (pgs_cons (pg_name (i := 2) sc_issigns.nd rfl (.inl rfl)) pgs_nil)))) (fun _ _ _ _ _ => pts_nil) (fun _ _ _ _ _ => (pe_cmpR op_lt_str (pv 1) (pv 2) (nomark _)))) pa_nil)))
      )), ?_⟩
    refine ⟨_, rfl, sg, rfl, by omega, ?_⟩
    rw [decide_eq_true (ov_az.mpr hm.2.2.2)]
    have hsl : (S sg).length ≤ sizeLine := by rw [S_len]; exact Nat.le_trans hlen.2 (by decide)
    walk_at "s"
    refine ⟨hsl, ?_⟩
    walk_at "s"
    refine iteN (by rw [S_len]; exact decide_eq_false (by omega)) ?_
    walk_at "s"
    refine ⟨hsl, ?_⟩
    walk_at "s"
    refine iteN (by rw [S_len]; exact decide_eq_false (by omega)) ?_
    walk_at "s"
    refine ⟨hsl, _, _, .txt (S sg), .txt (S (sg.drop 1)), rfl, rfl, slice_from (by decide), trivial, trivial, fun D hD => ?_⟩
    refine lc_keep (n := min (sg.map fun c => V.str (S [c])).length ((sg.drop 1).map fun c => V.str (S [c])).length) keep_same walk_zipX hD (by rw [List.length_map]; exact Nat.lt_of_le_of_lt (Nat.min_le_left _ _) (small1000 (Nat.le_trans hlen.2 (by decide)))) (fun _ y => y = .bl true) (fun _ _ => ⟨rfl, rfl⟩) (fun i x H2 H3 R hii r1 hy hR => ?_) (fun ys H2 hly hg r1 hDs => ?_)
    · obtain ⟨t, x1, x2, rfl, ht, rfl, e1, e2⟩ := hy
      have e1 : (sg.map fun c => V.str (S [c]))[i]? = some x1 := e1
      have e2 : ((sg.drop 1).map fun c => V.str (S [c]))[i]? = some x2 := e2
      rw [List.getElem?_map] at e1 e2
      rw [List.getElem?_drop] at e2
      cases q1 : sg[i]? with
      | none => rw [q1] at e1; cases e1
      | some c =>
        cases q2 : sg[1 + i]? with
        | none => rw [q2] at e2; cases e2
        | some d =>
          rw [q1] at e1; rw [q2] at e2
          cases e1; cases e2
          have hcd := sg_asc hm i c d q1 (by rw [Nat.add_comm]; exact q2)
          refine ⟨t, _, rfl, .inl (.inl upd_same), rfl, _, _, rfl, _, _, rfl, rfl, rfl, ?_⟩
          walk_at "s"
          refine hR _ _ (sm_new ht) (congrArg V.bl ?_)
          show decide (([c] : List Nat) < [d]) = true
          rw [decide_eq_true_eq, List.cons_lt_cons_iff]
          exact .inl hcd
    · refine ⟨D, List.replicate ys.length true, rfl, SqL.of (by rw [← all_true hg]; exact hDs), ?_⟩
      rw [rep_all]
      exact k H2 r1
abbrev s_isname : Stmt := top 13
abbrev n_isname : List Str := ["value"]
theorem sc_isname : FnScope n_isname ["value"] (fnScope s_isname) := fnScope_by (by decide +kernel)
def no10 : List (List Nat) := [[98, 97, 99, 107], [105, 115], [110, 111, 116], [97, 110, 100], [111, 114], [105, 102], [116, 104, 101, 110], [102, 111, 114], [97, 108, 108], [115, 111, 109, 101]]
def Name (m : List Nat) : Prop := 2 ≤ m.length ∧ m.length ≤ 6 ∧ (∀ c ∈ m, 97 ≤ c ∧ c ≤ 122) ∧ m ∉ no10
instance (m : List Nat) : Decidable (Name m) := by unfold Name; infer_instance
def spIsName : Sp := fun vs H Q _ => ∃ (m : List Nat), vs = [.str (S m)] ∧ m.length ≤ 16000000 ∧ Q (.bl (decide (Name m))) H
theorem ok_isname (T : BT mg) {NN : Addr} (mgN : mg "_NO_NAMES" = some (.ref NN)) (hN : ∀ H, SqT K H NN (txs no10)) (c_isletters : Cal P w K mg base 2 "is_letters" spIsLetters []) {f : Addr} {fd : FuncData} (F : Def K mg "is_name" s_isname f fd) (b : Binds K fd ["value"] []) : Cal P w K mg base 3 "is_name" spIsName [] := by
  refine cal0 F b .nil sc_isname (fun vs H Q E h => ?_) (fun cdv A outer s H vs Q E hr h => ?_)
  · obtain ⟨m, rfl, _⟩ := h; rfl
  · obtain ⟨m, rfl, hm, k⟩ := h
    refine ⟨_, (pss_one (ps_ret (pe_and (pe_callB (isiK K) (by rfl) T.m_isinstance PyProof.Rows.boot_isinstance (pa_cons (pv 0) (pa_cons (pe_bltn (v := .ty "str") (by rfl) T.m_str PyProof.Rows.boot_str rfl) pa_nil))) (pe_and (pe_chain op_le op_le pe_int (pe_callB call_len_str (by rfl) T.m_len PySem.boot_len (pa_cons (pv 0) pa_nil)) pe_int) (pe_and (pe_c c_isletters hr (by first | decide | omega) (by rfl) (pa_cons (pv 0) pa_nil)) (pe_one (pe_cmpR (notInK K) (pv 0) (pe_glob (v := .ref NN) (by rfl) mgN rfl) rfl))))))
      ), ?_⟩
    have hsl : (S m).length ≤ sizeLine := by rw [S_len]; exact Nat.le_trans hm (by decide)
    walk_at "s"
    refine ⟨_, _, _, _, true, rfl, .ty _, .base (.str _), kit_ty (by decide +kernel), true, rfl, ?_⟩
    refine iteT ?_
    have fin : ∀ {b : Bool}, (b = true ↔ Name m) → Q (.bl b) H := fun {b} h => by
      have : b = decide (Name m) := by
        rw [Bool.eq_iff_iff, decide_eq_true_eq]; exact h
      rw [this]; exact k
    refine ⟨_, rfl, S m, rfl, hsl, _, _, rfl, rfl, _, rfl, ?_⟩
    rw [S_len]
    by_cases h2 : 2 ≤ m.length
    · refine iteB (decide_eq_true (by omega)) ?_
      refine ⟨_, _, rfl, rfl, ?_⟩
      by_cases h6 : m.length ≤ 6
      · refine ⟨_, rfl, iteB (decide_eq_true (by omega)) ?_⟩
        refine ⟨_, rfl, m, rfl, by omega, _, rfl, ?_⟩
        by_cases ho : Ov az m
        · refine iteB (decide_eq_true ho) ?_
          refine ⟨_, rfl, NN, txs no10, rfl, .inr (hN H), rfl, flat_txs _, ?_⟩
          rw [inV_txs]
          refine fin ?_
          rw [if_pos rfl, Bool.not_eq_true', decide_eq_false_iff_not]
          exact ⟨fun h => ⟨h2, h6, ov_az.mp ho, h⟩, fun h => h.2.2.2⟩
        · refine iteN (decide_eq_false ho) ?_
          exact fin ⟨fun h => (nomatch h), fun h => absurd (ov_az.mpr h.2.2.1) ho⟩
      · refine ⟨_, rfl, iteN (decide_eq_false (by omega)) ?_⟩
        exact fin ⟨fun h => (nomatch h), fun h => absurd h.2.1 h6⟩
    · refine iteN (decide_eq_false (by omega)) ⟨_, rfl, iteN rfl ?_⟩
      exact fin ⟨fun h => (nomatch h), fun h => absurd h.1 h2⟩
theorem all_of {b : Bool} {xs : List V} {p : Addr} {K : PySem.W.Frag} {H : Hp} (h : H p = some (seqB b xs)) {H' : Hp} (s : Same H H') : SqB K b H' p xs := SqB.of (s _ _ h)
abbrev s_ismarks : Stmt := top 24
abbrev n_ismarks : List Str := ["value", "mark"]
theorem sc_ismarks : FnScope n_ismarks ["value"] (fnScope s_ismarks) := fnScope_by (by decide +kernel)
def spIsMarks : Sp := fun vs H Q _ => ∃ (p : Addr) (b : Bool) (ms : List (List Nat)), vs = [.ref p] ∧ H p = some (seqB b (txs ms)) ∧ 1 ≤ ms.length ∧ ms.length < 60 ∧ ms.Nodup ∧ (∀ m ∈ ms, Name m) ∧ ∀ H', Same H H' → Q (.bl true) H'
theorem ok_ismarks (T : BT mg) (c_isseq : Cal P w K mg base 1 "is_sequence" spIsSeq []) (c_isname : Cal P w K mg base 3 "is_name" spIsName []) {f : Addr} {fd : FuncData} (F : Def K mg "_is_marks" s_ismarks f fd) (b : Binds K fd ["value"] []) : Cal P w K mg base 4 "_is_marks" spIsMarks [] := by
  refine cal0 F b .nil sc_ismarks (fun vs H Q E h => ?_) (fun cdv A outer s H vs Q E hr h => ?_)
  · obtain ⟨p, b, ms, rfl, _⟩ := h; rfl
  · obtain ⟨p, b, ms, rfl, hp, h1, h60, nd, hms, k⟩ := h
    refine ⟨_, (pss_cons (ps_if (PW.pt (pw_or (pt_not (pt_val (pe_c c_isseq hr (by first | decide | omega) (by rfl) (pa_cons (pv 0) pa_nil)))) (pw_or (pt_cmpR op_eq (pe_callB (lenK K) (by rfl) T.m_len PySem.boot_len (pa_cons (pv 0) pa_nil)) pe_int (nomark _)) (pw_or1 (pt_not (pt_val (pe_callB (cr_all rfl) (by rfl) T.m_all PyProof.Rows.boot_all (pa_cons (pe_lc (own := [("mark", 1)]) rfl sc_ismarks.nd (pi_seq (pv 0)) (blkOk_by (N := n_ismarks) (sc := fnScope s_ismarks) (by decide +kernel)) (fun _ _ _ _ _ => (pg_name (i := 1) sc_ismarks.nd rfl (.inl rfl))) (fun _ _ _ _ _ => pts_nil) (fun _ _ _ _ _ => (pe_c c_isname hr (by first | decide | omega) (by rfl) (pa_cons (pv 1) pa_nil)))) pa_nil)))))))) 
        (pss_one (ps_ret pe_bl)
        )
       pss_nil)
      (pss_one (ps_ret (pe_cmpR op_eq (pe_lenSetT rfl (by rfl) T.m_len (by rfl) T.m_set (pv 0)) (pe_callB (lenK K) (by rfl) T.m_len PySem.boot_len (pa_cons (pv 0) pa_nil)) (nomark _)))
      )), ?_⟩
    refine ⟨_, rfl, p, b, txs ms, rfl, hp, fun H1 s1 => ?_⟩
    refine ⟨true, rfl, ?_⟩
    refine iteN rfl ?_
    refine ⟨_, rfl, p, _, rfl, (all_of hp s1).or, rfl, _, rfl, ?_⟩
    refine iteN (by rw [txs_len]; exact decide_eq_false (by show ¬ V.int (ms.length : Int) = V.int 0; intro h; have := V.int.inj h; omega)) ?_
    have hB1 : SqB K b H1 p (txs ms) := all_of hp s1
    refine ⟨_, rfl, p, b, txs ms, rfl, hB1, fun D hD => lc_keep keep_same (walk_seq (K := K) (b := b) (a := p) (xs := txs ms)) hD (by rw [txs_len]; exact small1000 (by omega)) (fun _ y => y = .bl true) (fun H2 r => hB1.same r) (fun i x H2 H3 R hii r1 hy hR => ?_) (fun ys H2 hly hg r1 hDs => ?_)⟩
    · obtain ⟨rfl, e⟩ := hy
      obtain ⟨m, hm, rfl⟩ := txs_get e
      refine ⟨rfl, ?_⟩
      have hnm := hms m (List.mem_of_getElem? hm)
      refine ⟨_, rfl, m, rfl, by have := hnm.2.1; omega, ?_⟩
      rw [decide_eq_true hnm]
      exact hR _ _ (Same.refl _) rfl
    · refine ⟨D, List.replicate ys.length true, rfl, SqL.of (by rw [← all_true hg]; exact hDs), ?_⟩
      rw [rep_all]
      have hB2 : SqB K b H2 p (txs ms) := hB1.same r1
      refine ⟨_, rfl, ?_⟩
      refine ⟨_, rfl, p, ms, rfl, hB2.or, h60, nd, ?_⟩
      refine ⟨_, rfl, p, _, rfl, hB2.or, rfl, ?_⟩
      rw [txs_len, decide_eq_true rfl]
      exact k H2 (s1.trans r1)
abbrev s_istargets : Stmt := top 26
abbrev n_istargets : List Str := ["value", "signs", "marks", "mark"]
theorem sc_istargets : FnScope n_istargets ["value", "signs", "marks"] (fnScope s_istargets) := fnScope_by (by decide +kernel)
def spIsTargets : Sp := fun vs H Q _ => ∃ (p q : Addr) (b c : Bool) (ts ms : List (List Nat)) (sg : List Nat), vs = [.ref p, .str (S sg), .ref q] ∧ H p = some (seqB b (txs ts)) ∧ H q = some (seqB c (txs ms)) ∧ ts.length = sg.length ∧ sg.length ≤ 3 ∧ (∀ t ∈ ts, t ∈ ms) ∧ ∀ H', Same H H' → Q (.bl true) H'
theorem ok_istargets (T : BT mg) (c_isseq : Cal P w K mg base 1 "is_sequence" spIsSeq []) {f : Addr} {fd : FuncData} (F : Def K mg "_is_targets" s_istargets f fd) (b : Binds K fd ["value", "signs", "marks"] []) : Cal P w K mg base 2 "_is_targets" spIsTargets [] := by
  refine cal0 F b .nil sc_istargets (fun vs H Q E h => ?_) (fun cdv A outer s H vs Q E hr h => ?_)
  · obtain ⟨p, q, b, c, ts, ms, sg, rfl, _⟩ := h; rfl
  · obtain ⟨p, q, b, c, ts, ms, sg, rfl, hp, hq, hl, hl3, ht, k⟩ := h
    refine ⟨_, (pss_cons (ps_if (PW.pt (pw_or (pt_not (pt_val (pe_c c_isseq hr (by first | decide | omega) (by rfl) (pa_cons (pv 0) pa_nil)))) (pw_or1 (pt_cmpR op_ne (pe_callB (lenK K) (by rfl) T.m_len PySem.boot_len (pa_cons (pv 0) pa_nil)) (pe_callB call_len_str (by rfl) T.m_len PySem.boot_len (pa_cons (pv 1) pa_nil)) (nomark _))))) 
        (pss_one (ps_ret pe_bl)
        )
       pss_nil)
      (pss_one (ps_ret (pe_callB (cr_all rfl) (by rfl) T.m_all PyProof.Rows.boot_all (pa_cons (pe_lc (own := [("mark", 3)]) rfl sc_istargets.nd (pi_seq (pv 0)) (blkOk_by (N := n_istargets) (sc := fnScope s_istargets) (by decide +kernel)) (fun _ _ _ _ _ => (pg_name (i := 3) sc_istargets.nd rfl (.inl rfl))) (fun _ _ _ _ _ => pts_nil) (fun _ _ _ _ _ => (pe_cmpR (inK K) (pv 3) (pv 2) rfl))) pa_nil)))
      )), ?_⟩
    refine ⟨_, rfl, p, b, txs ts, rfl, hp, fun H1 s1 => ?_⟩
    refine ⟨true, rfl, ?_⟩
    refine iteN rfl ?_
    have hB1 : SqB K b H1 p (txs ts) := all_of hp s1
    have hC1 : SqB K c H1 q (txs ms) := all_of hq s1
    refine ⟨_, rfl, p, _, rfl, hB1.or, _, rfl, _, rfl, by rw [S_len]; exact sz (m := 3) hl3 (by decide), rfl, _, rfl, ?_⟩
    refine iteN (by rw [txs_len, S_len, hl]; simp) ?_
    refine ⟨_, rfl, p, b, txs ts, rfl, hB1, fun D hD => lc_keep keep_same (walk_seq (K := K) (b := b) (a := p) (xs := txs ts)) hD (by rw [txs_len]; exact small1000 (by omega)) (fun _ y => y = .bl true) (fun H2 r => hB1.same r) (fun i x H2 H3 R hii r1 hy hR => ?_) (fun ys H2 hly hg r1 hDs => ?_)⟩
    · obtain ⟨rfl, e⟩ := hy
      obtain ⟨m, hm, rfl⟩ := txs_get e
      refine ⟨rfl, ?_⟩
      refine ⟨_, rfl, _, rfl, q, txs ms, rfl, (hC1.same r1).or, rfl, flat_txs _, ?_⟩
      refine hR _ _ (Same.refl _) ?_
      rw [inV_txs, decide_eq_true (ht m (List.mem_of_getElem? hm))]; rfl
    · refine ⟨D, List.replicate ys.length true, rfl, SqL.of (by rw [← all_true hg]; exact hDs), ?_⟩
      rw [rep_all]
      exact k H2 (s1.trans r1)
abbrev s_issteps : Stmt := top 25
abbrev n_issteps : List Str := ["value", "signs", "marks", "targets"]
theorem sc_issteps : FnScope n_issteps ["value", "signs", "marks"] (fnScope s_issteps) := fnScope_by (by decide +kernel)
def spIsSteps : Sp := fun vs H Q _ => ∃ (p q : Addr) (b b2 c : Bool) (ps : List Addr) (tss : List (List (List Nat))) (ms : List (List Nat)) (sg : List Nat), vs = [.ref p, .str (S sg), .ref q] ∧ H p = some (seqB b (ps.map V.ref)) ∧ H q = some (seqB c (txs ms)) ∧ sg.length ≤ 3 ∧ ms.length < 60 ∧ ps.length = ms.length ∧
  tss.length = ps.length ∧ (∀ (i : Nat) (a : Addr) (ts : List (List Nat)), ps[i]? = some a → tss[i]? = some ts → H a = some (seqB b2 (txs ts)) ∧ ts.length = sg.length ∧ ∀ t ∈ ts, t ∈ ms) ∧ ∀ H', Same H H' → Q (.bl true) H'
theorem ok_issteps (T : BT mg) (c_isseq : Cal P w K mg base 1 "is_sequence" spIsSeq []) (c_istargets : Cal P w K mg base 2 "_is_targets" spIsTargets []) {f : Addr} {fd : FuncData} (F : Def K mg "_is_steps" s_issteps f fd) (b : Binds K fd ["value", "signs", "marks"] []) : Cal P w K mg base 3 "_is_steps" spIsSteps [] := by
  refine cal0 F b .nil sc_issteps (fun vs H Q E h => ?_) (fun cdv A outer s H vs Q E hr h => ?_)
  · obtain ⟨p, q, b, b2, c, ps, tss, ms, sg, rfl, _⟩ := h; rfl
  · obtain ⟨p, q, b, b2, c, ps, tss, ms, sg, rfl, hp, hq, hl3, h60, hl, hlt, hts, k⟩ := h
    refine ⟨_, (pss_cons (ps_if (PW.pt (pw_or (pt_not (pt_val (pe_c c_isseq hr (by first | decide | omega) (by rfl) (pa_cons (pv 0) pa_nil)))) (pw_or1 (pt_cmpR op_ne (pe_callB (lenK K) (by rfl) T.m_len PySem.boot_len (pa_cons (pv 0) pa_nil)) (pe_callB (lenK K) (by rfl) T.m_len PySem.boot_len (pa_cons (pv 2) pa_nil)) (nomark _))))) 
        (pss_one (ps_ret pe_bl)
        )
       pss_nil)
      (pss_one (ps_ret (pe_callB (cr_all rfl) (by rfl) T.m_all PyProof.Rows.boot_all (pa_cons (pe_lc (own := [("targets", 3)]) rfl sc_issteps.nd (pi_seq (pv 0)) (blkOk_by (N := n_issteps) (sc := fnScope s_issteps) (by decide +kernel)) (fun _ _ _ _ _ => (pg_name (i := 3) sc_issteps.nd rfl (.inl rfl))) (fun _ _ _ _ _ => pts_nil) (fun _ _ _ _ _ => (pe_c c_istargets hr (by first | decide | omega) (by rfl) (pa_cons (pv 3) (pa_cons (pv 1) (pa_cons (pv 2) pa_nil)))))) pa_nil)))
      )), ?_⟩
    refine ⟨_, rfl, p, b, _, rfl, hp, fun H1 s1 => ?_⟩
    refine ⟨true, rfl, ?_⟩
    refine iteN rfl ?_
    have hB1 : SqB K b H1 p (ps.map V.ref) := all_of hp s1
    have hC1 : SqB K c H1 q (txs ms) := all_of hq s1
    refine ⟨_, rfl, p, _, rfl, hB1.or, _, rfl, q, _, rfl, hC1.or, rfl, _, rfl, ?_⟩
    refine iteN (by rw [txs_len, List.length_map, hl]; simp) ?_
    refine ⟨_, rfl, p, b, ps.map V.ref, rfl, hB1, fun D hD => lc_keep keep_same (walk_seq (K := K) (b := b) (a := p) (xs := ps.map V.ref)) hD (by rw [List.length_map]; exact small1000 (by omega)) (fun _ y => y = .bl true) (fun H2 r => hB1.same r) (fun i x H2 H3 R hii r1 hy hR => ?_) (fun ys H2 hly hg r1 hDs => ?_)⟩
    · obtain ⟨rfl, e⟩ := hy
      rw [List.getElem?_map] at e
      have hi : i < ps.length := by rw [List.length_map] at hii; exact hii
      have hi2 : i < tss.length := by omega
      rw [List.getElem?_eq_getElem hi] at e
      cases e
      obtain ⟨h1, h2, h3⟩ := hts i _ _ (List.getElem?_eq_getElem hi) (List.getElem?_eq_getElem hi2)
      refine ⟨rfl, ?_⟩
      refine ⟨_, rfl, _, rfl, _, rfl, ps[i], q, b2, c, tss[i], ms, sg, rfl, (s1.trans r1) _ _ h1, (s1.trans r1) _ _ hq, h2, hl3, h3, fun H4 s4 => hR _ _ s4 rfl⟩
    · refine ⟨D, List.replicate ys.length true, rfl, SqL.of (by rw [← all_true hg]; exact hDs), ?_⟩
      rw [rep_all]
      exact k H2 (s1.trans r1)
end
end Toy
set_option maxHeartbeats 4000000
namespace Toy
open PySem L2 C8 SX LX
local macro_rules | `(tactic| walk_at "c") => `(tactic| refine And.intro (by first | (show (0 : Int) < _; omega) | exact Or.inr ⟨by decide, by decide⟩ | exact Or.inl ⟨by decide, by decide⟩ | (exact ⟨by omega, by omega⟩)) ?_)
local macro_rules | `(tactic| walk_at "s1") => `(tactic| first | refine ⟨_, rfl, ?_⟩ | refine ⟨_, _, rfl, rfl, ?_⟩ | refine .inl ⟨_, rfl, ?_⟩ | walk_at "c")
local macro_rules | `(tactic| walk_at "s") => `(tactic| repeat (walk_at "s1"))
section
variable {P : Program} {w : World} {K : PySem.W.Frag} {mg : Str → Option Value} {base : Heap}
structure CR (K : PySem.W.Frag) (C : Addr) : Prop where
  cl : Cls K C
  nS : PySem.W.findIn K (.ref C) "signs" = some none
  nM : PySem.W.findIn K (.ref C) "marks" = some none
  nF : PySem.W.findIn K (.ref C) "first" = some none
  nT : PySem.W.findIn K (.ref C) "steps" = some none
  nN : PySem.W.findIn K (.ref C) "_numbers" = some none
  nL : PySem.W.findIn K (.ref C) "_leads" = some none
  nC : PySem.W.findIn K (.ref C) "_columns" = some none
def rdF (sg : List Nat) (m : Addr) (f : List Nat) (st nu le : Addr) (t : List (Str × V)) : List (Str × V) :=
  ("signs", .str (S sg)) :: ("marks", .ref m) :: ("first", .str (S f)) :: ("steps", .ref st) :: ("_numbers", .ref nu) :: ("_leads", .ref le) :: t
def numK (ms : List (List Nat)) : List (Key × V) := (List.range ms.length).map fun i => (tk (ms.getD i []), .int (i : Nat))
structure RdrAt (C : Addr) (H : Hp) (a : Addr) (sg : List Nat) (ms : List (List Nat)) (f : List Nat) (tg : List Nat → Nat → List Nat) (dx m st nu le : Addr) (sa la : List Nat → Addr) (t : List (Str × V)) : Prop where
  ha : H a = some (.ins C dx (rdF sg m f st nu le t))
  hm : H m = some (.tup (txs ms))
  hst : H st = some (.tup (ms.map fun x => .ref (sa x)))
  hsa : ∀ x ∈ ms, H (sa x) = some (.tup (txs (sg.map (tg x))))
  hnu : H nu = some (.dK (numK ms))
  hle : H le = some (.dK (leK ms la))
  hla : ∀ x ∈ ms, H (la x) = some (.dK (laK sg (tg x)))
def colI (ms : List (List Nat)) (tg : List Nat → Nat → List Nat) (c : Nat) : List V := ms.map fun x => V.int (ms.idxOf (tg x c) : Nat)
def coK (sg : List Nat) (ca : Nat → Addr) : List (Key × V) := sg.map fun c => (tk [c], .ref (ca c))
structure ColAt (H : Hp) (co : Addr) (sg : List Nat) (ms : List (List Nat)) (tg : List Nat → Nat → List Nat) (ca : Nat → Addr) : Prop where
  hco : H co = some (.dK (coK sg ca))
  hca : ∀ c ∈ sg, H (ca c) = some (.tup (colI ms tg c))
def TailOk (t : List (Str × V)) : Prop := t = [] ∨ ∃ co : Addr, t = ([("_columns", .ref co)] : List (Str × V))
def Rdr0 (C : Addr) (H : Hp) (a : Addr) (sg : List Nat) (ms : List (List Nat)) (f : List Nat) (tg : List Nat → Nat → List Nat) : Prop := ∃ dx m st nu le sa la t, TailOk t ∧ RdrAt C H a sg ms f tg dx m st nu le sa la t
def Rdr (C : Addr) (H : Hp) (a : Addr) (sg : List Nat) (ms : List (List Nat)) (f : List Nat) (tg : List Nat → Nat → List Nat) : Prop := ∃ dx m st nu le sa la co ca, RdrAt C H a sg ms f tg dx m st nu le sa la [("_columns", .ref co)] ∧ ColAt H co sg ms tg ca
theorem Rdr.to0 {C : Addr} {H : Hp} {a : Addr} {sg : List Nat} {ms : List (List Nat)} {f : List Nat} {tg : List Nat → Nat → List Nat} (r : Rdr C H a sg ms f tg) : Rdr0 C H a sg ms f tg :=
  let ⟨dx, m, st, nu, le, sa, la, co, ca, h, _⟩ := r; ⟨dx, m, st, nu, le, sa, la, _, .inr ⟨co, rfl⟩, h⟩
theorem putF_new {f : Str} {v : V} : ∀ {fs : List (Str × V)}, (∀ p ∈ fs, ¬ p.1 = f) → putF f v fs = fs ++ [(f, v)]
  | [], _ => rfl
  | (g, u) :: fs, h => by
    show (if g = f then _ else (g, u) :: putF f v fs) = _
    rw [if_neg (h (g, u) List.mem_cons_self), putF_new fun p hp => h p (List.mem_cons_of_mem _ hp)]; rfl
theorem nm6 : ([("signs" : Str), "marks", "first", "steps", "_numbers", "_leads"] : List Str).Nodup := by decide +kernel
theorem pf1 (v0 : V) : putF ("signs" : Str) v0 ([] : List (Str × V)) = ([("signs", v0)] : List (Str × V)) := rfl
theorem pf2 (v0 v1 : V) : putF ("marks" : Str) v1 ([("signs", v0)] : List (Str × V)) = ([("signs", v0), ("marks", v1)] : List (Str × V)) := putF_new fun p hp => by
  simp at hp; rcases hp with rfl; dsimp only; decide +kernel
theorem pf3 (v0 v1 v2 : V) : putF ("first" : Str) v2 ([("signs", v0), ("marks", v1)] : List (Str × V)) = ([("signs", v0), ("marks", v1), ("first", v2)] : List (Str × V)) := putF_new fun p hp => by
  simp at hp; rcases hp with rfl | rfl <;> (dsimp only; decide +kernel)
theorem pf4 (v0 v1 v2 v3 : V) : putF ("steps" : Str) v3 ([("signs", v0), ("marks", v1), ("first", v2)] : List (Str × V)) = ([("signs", v0), ("marks", v1), ("first", v2), ("steps", v3)] : List (Str × V)) := putF_new fun p hp => by
  simp at hp; rcases hp with rfl | rfl | rfl <;> (dsimp only; decide +kernel)
theorem pf5 (v0 v1 v2 v3 v4 : V) : putF ("_numbers" : Str) v4 ([("signs", v0), ("marks", v1), ("first", v2), ("steps", v3)] : List (Str × V)) = ([("signs", v0), ("marks", v1), ("first", v2), ("steps", v3), ("_numbers", v4)] : List (Str × V)) := putF_new fun p hp => by
  simp at hp; rcases hp with rfl | rfl | rfl | rfl <;> (dsimp only; decide +kernel)
theorem pf6 (v0 v1 v2 v3 v4 v5 : V) : putF ("_leads" : Str) v5 ([("signs", v0), ("marks", v1), ("first", v2), ("steps", v3), ("_numbers", v4)] : List (Str × V)) = ([("signs", v0), ("marks", v1), ("first", v2), ("steps", v3), ("_numbers", v4), ("_leads", v5)] : List (Str × V)) := putF_new fun p hp => by
  simp at hp; rcases hp with rfl | rfl | rfl | rfl | rfl <;> (dsimp only; decide +kernel)
theorem pf7 (v0 v1 v2 v3 v4 v5 v6 : V) : putF ("_columns" : Str) v6 ([("signs", v0), ("marks", v1), ("first", v2), ("steps", v3), ("_numbers", v4), ("_leads", v5)] : List (Str × V)) = ([("signs", v0), ("marks", v1), ("first", v2), ("steps", v3), ("_numbers", v4), ("_leads", v5), ("_columns", v6)] : List (Str × V)) := putF_new fun p hp => by
  simp at hp; rcases hp with rfl | rfl | rfl | rfl | rfl | rfl <;> (dsimp only; decide +kernel)
theorem RdrAt.same {C : Addr} {H H' : Hp} {a : Addr} {sg : List Nat} {ms : List (List Nat)} {f : List Nat} {tg : List Nat → Nat → List Nat} {dx m st nu le : Addr} {sa la : List Nat → Addr} {t : List (Str × V)} (h : RdrAt C H a sg ms f tg dx m st nu le sa la t) (s : Same H H') : RdrAt C H' a sg ms f tg dx m st nu le sa la t :=
  ⟨s _ _ h.ha, s _ _ h.hm, s _ _ h.hst, fun x hx => s _ _ (h.hsa x hx), s _ _ h.hnu, s _ _ h.hle, fun x hx => s _ _ (h.hla x hx)⟩
theorem ColAt.same {H H' : Hp} {co : Addr} {sg : List Nat} {ms : List (List Nat)} {tg : List Nat → Nat → List Nat} {ca : Nat → Addr} (h : ColAt H co sg ms tg ca) (s : Same H H') : ColAt H' co sg ms tg ca := ⟨s _ _ h.hco, fun c hc => s _ _ (h.hca c hc)⟩
theorem Rdr.same {C : Addr} {H H' : Hp} {a : Addr} {sg : List Nat} {ms : List (List Nat)} {f : List Nat} {tg : List Nat → Nat → List Nat} (r : Rdr C H a sg ms f tg) (s : Same H H') : Rdr C H' a sg ms f tg :=
  let ⟨dx, m, st, nu, le, sa, la, co, ca, h, hc⟩ := r; ⟨dx, m, st, nu, le, sa, la, co, ca, h.same s, hc.same s⟩
theorem Rdr0.same {C : Addr} {H H' : Hp} {a : Addr} {sg : List Nat} {ms : List (List Nat)} {f : List Nat} {tg : List Nat → Nat → List Nat} (r : Rdr0 C H a sg ms f tg) (s : Same H H') : Rdr0 C H' a sg ms f tg :=
  let ⟨dx, m, st, nu, le, sa, la, t, ht, h⟩ := r; ⟨dx, m, st, nu, le, sa, la, t, ht, h.same s⟩
structure Good (sg : List Nat) (ms : List (List Nat)) (f : List Nat) (tg : List Nat → Nat → List Nat) : Prop where
  hsg : Sg sg
  hnd : ms.Nodup
  h1 : 1 ≤ ms.length
  h8 : ms.length ≤ 8
  hnm : ∀ m ∈ ms, Name m
  hf : f ∈ ms
  htg : ∀ m ∈ ms, ∀ c ∈ sg, tg m c ∈ ms
theorem zip_self_map {α β γ : Type} (g : α → β) (f : α → γ) : ∀ l : List α, ((l.zip (l.map f)).map fun p => (g p.1, p.2)) = l.map fun a => (g a, f a)
  | [] => rfl
  | a :: l => by
    have := zip_self_map g f l
    simp only [List.map_cons, List.zip_cons_cons] at this ⊢
    rw [this]
theorem la_dict {sg : List Nat} (hn : sg.Nodup) (t : Nat → List Nat) : mergeK [] ((sg.zip (txs (sg.map t))).map fun p => (tk [p.1], p.2)) = laK sg t := by
  have e : txs (sg.map t) = sg.map fun c => V.str (S (t c)) := by unfold txs; rw [List.map_map]; rfl
  rw [e, zip_self_map (fun c => tk [c]), merge_nil (nodup_keys (key := fun c => tk [c]) (fun a b h => (List.cons.inj (tk_inj h)).1) hn)]
  rfl
theorem getD_of {ms : List (List Nat)} {i : Nat} {m : List Nat} (h : ms[i]? = some m) : ms.getD i [] = m := by rw [List.getD_eq_getElem?_getD, h]; rfl
theorem key_inj {ms : List (List Nat)} (nd : ms.Nodup) : ∀ i j, i < ms.length → j < i → tk (ms.getD j []) ≠ tk (ms.getD i []) := fun i j hi hj h => by
  have e := tk_inj h
  have hj2 : j < ms.length := by omega
  rw [List.getD_eq_getElem?_getD, List.getD_eq_getElem?_getD, List.getElem?_eq_getElem hi, List.getElem?_eq_getElem hj2] at e
  have e1 := nd.idxOf_getElem i hi
  have e2 := nd.idxOf_getElem j hj2
  rw [show ms[j] = ms[i] from e, e1] at e2
  omega
end
section
variable {C : Addr} {H : Hp} {a : Addr} {sg : List Nat} {ms : List (List Nat)} {f : List Nat} {tg : List Nat → Nat → List Nat} {dx m st nu le : Addr} {sa la : List Nat → Addr} {t : List (Str × V)}
theorem rl_signs : (rdF sg m f st nu le t).lookup ("signs" : Str) = some (.str (S sg)) := by rfl
theorem rl_marks : (rdF sg m f st nu le t).lookup ("marks" : Str) = some (.ref m) := by rfl
theorem rl_first : (rdF sg m f st nu le t).lookup ("first" : Str) = some (.str (S f)) := by rfl
theorem rl_steps : (rdF sg m f st nu le t).lookup ("steps" : Str) = some (.ref st) := by rfl
theorem rl_numbers : (rdF sg m f st nu le t).lookup ("_numbers" : Str) = some (.ref nu) := by rfl
theorem rl_leads : (rdF sg m f st nu le t).lookup ("_leads" : Str) = some (.ref le) := by rfl
theorem RdrAt.mark (r : RdrAt C H a sg ms f tg dx m st nu le sa la t) {x : List Nat} (h : x ∈ ms) : DGet H le (.str (S x)) (some (.ref (la x))) := .inl ⟨_, tk x, .inl r.hle, rfl, (valV_map' (key := tk) (f := fun m => V.ref (la m)) (fun _ _ => tk_inj) h).symm⟩
theorem RdrAt.at_ (r : RdrAt C H a sg ms f tg dx m st nu le sa la t) {x : List Nat} (h : x ∈ ms) {c : Nat} (hc : c ∈ sg) : DGet H (la x) (.str (S [c])) (some (.str (S (tg x c)))) :=
  .inl ⟨_, tk [c], .inl (r.hla x h), rfl, (valV_map' (key := fun c => tk [c]) (f := fun c => V.str (S (tg x c))) (fun _ _ e => (List.cons.inj (tk_inj e)).1) hc).symm⟩
theorem numK_eq (ms : List (List Nat)) (nd : ms.Nodup) : numK ms = ms.map fun x => (tk x, V.int (ms.idxOf x : Nat)) := by
  unfold numK
  symm
  refine list_of (f := fun i => (tk (ms.getD i []), V.int (i : Nat))) (by rw [List.length_map]) fun j y hy => ?_
  rw [List.getElem?_map] at hy
  cases q : ms[j]? with
  | none => rw [q] at hy; cases hy
  | some x =>
    rw [q] at hy; cases hy
    obtain ⟨h1, h2⟩ := List.getElem?_eq_some_iff.mp q
    have : ms.idxOf x = j := by rw [← h2]; exact nd.idxOf_getElem j h1
    rw [getD_of q]
    show (tk x, V.int (ms.idxOf x : Nat)) = _
    rw [this]
theorem RdrAt.num (r : RdrAt C H a sg ms f tg dx m st nu le sa la t) (nd : ms.Nodup) {x : List Nat} (h : x ∈ ms) : DGet H nu (.str (S x)) (some (.int (ms.idxOf x : Nat))) := .inl ⟨_, tk x, .inl r.hnu, rfl, by
  rw [numK_eq ms nd]; exact (valV_map' (key := tk) (f := fun x => V.int (ms.idxOf x : Nat)) (fun _ _ => tk_inj) h).symm⟩
end
theorem rdr_no {sg : List Nat} {m : Addr} {f : List Nat} {st nu le : Addr} {t : List (Str × V)} {n : Str} (ht : TailOk t) (h : (n == ("signs" : Str)) = false ∧ (n == ("marks" : Str)) = false ∧ (n == ("first" : Str)) = false ∧ (n == ("steps" : Str)) = false ∧ (n == ("_numbers" : Str)) = false ∧ (n == ("_leads" : Str)) = false ∧ (n == ("_columns" : Str)) = false) : (rdF sg m f st nu le t).lookup n = none := by
  unfold rdF
  rw [List.lookup_cons, h.1, List.lookup_cons, h.2.1, List.lookup_cons, h.2.2.1, List.lookup_cons, h.2.2.2.1, List.lookup_cons, h.2.2.2.2.1, List.lookup_cons, h.2.2.2.2.2.1]
  rcases ht with rfl | ⟨co, rfl⟩
  · rfl
  · rw [List.lookup_cons, h.2.2.2.2.2.2]; rfl
section
variable {P : Program} {w : World} {K : PySem.W.Frag} {mg : Str → Option Value} {base : Heap}
abbrev s_m_num : Stmt := inClass (top 19) 4
abbrev n_m_num : List Str := ["self", "mark"]
theorem sc_m_num : FnScope n_m_num ["self", "mark"] (fnScope s_m_num) := fnScope_by (by decide +kernel)
def spMNum (C : Addr) : Sp := fun vs H Q _ => ∃ (a : Addr) (sg : List Nat) (ms : List (List Nat)) (f : List Nat) (tg : List Nat → Nat → List Nat) (x : List Nat), vs = [.ref a, .str (S x)] ∧ Rdr0 C H a sg ms f tg ∧ ms.Nodup ∧ x ∈ ms ∧ Q (.int (ms.idxOf x : Nat)) H
theorem ok_mnum {C : Addr} (T : BT mg) (CH : CR K C) {f : Addr} {fd : FuncData} (me : Meth K C "number_of" f) (F : C8.Fun K "number_of" "Reader.number_of" s_m_num f fd) (b : Binds K fd ["self", "mark"] []) : Met P w K mg base 1 C "number_of" (spMNum C) [] := by
  refine met0 CH.cl me F b sc_m_num (fun vs H Q E h => ?_) (fun cdv A outer s H vs Q E hr h => ?_)
  · obtain ⟨a, sg, ms, f, tg, x, rfl, _⟩ := h; rfl
  · obtain ⟨a, sg, ms, f, tg, x, rfl, ⟨dx, m, st, nu, le, sa, la, t, ht, r⟩, hnd, hx, k⟩ := h
    refine ⟨_, (pss_one (ps_ret (pe_dget (hu_of hr) (fldK K (pv 0) rfl) (pv 1) (fun _ _ => rfl)))
      ), ?_⟩
    refine ⟨_, rfl, a, C, dx, _, _, rfl, r.ha, CH.cl, CH.nN, rl_numbers, ?_⟩
    exact ⟨_, rfl, _, _, rfl, r.num hnd hx, k⟩
abbrev s_table : Stmt := top 22
abbrev n_table : List Str := ["reader", "targets", "mark"]
theorem sc_table : FnScope n_table ["reader"] (fnScope s_table) := fnScope_by (by decide +kernel)
abbrev ncs_table : Scope := relS (outS (ofRet ((fnBody s_table).getD 0 (.Pass ⟨0, 0, 0, 0⟩)))) (fnScope s_table)
def tabI (sg : List Nat) (ms : List (List Nat)) (tg : List Nat → Nat → List Nat) (x : List Nat) : List V := sg.map fun c => V.int (ms.idxOf (tg x c) : Nat)
def spTable (C : Addr) : Sp := fun vs H Q _ => ∃ (a : Addr) (sg : List Nat) (ms : List (List Nat)) (f : List Nat) (tg : List Nat → Nat → List Nat), vs = [.ref a] ∧ Rdr0 C H a sg ms f tg ∧ Good sg ms f tg ∧
  ∀ (p : Addr) (ra : List Nat → Addr) (H' : Hp), Same H H' → H p = none → H' p = some (.lst (ms.map fun x => .ref (ra x))) → (∀ x ∈ ms, H' (ra x) = some (.lst (tabI sg ms tg x))) → Q (.ref p) H'
theorem ok_table {C : Addr} (T : BT mg) (CH : CR K C) (c_m_num : Met P w K mg base 1 C "number_of" (spMNum C) []) {f : Addr} {fd : FuncData} (F : Def K mg "table_of" s_table f fd) (b : Binds K fd ["reader"] []) : Cal P w K mg base 2 "table_of" (spTable C) [] := by
  refine cal0 F b .nil sc_table (fun vs H Q E h => ?_) (fun cdv A outer s H vs Q E hr h => ?_)
  · obtain ⟨a, sg, ms, f, tg, rfl, _⟩ := h; rfl
  · obtain ⟨a, sg, ms, f, tg, rfl, hrd, hgd, k⟩ := h
    obtain ⟨dx, m, st, nu, le, sa, la, t, ht, r⟩ := id hrd
    have h8 := hgd.h8
    refine ⟨_, (pss_one (ps_ret (pe_lc (own := [("targets", 1)]) rfl sc_table.nd (pi_tup (fldK K (pv 0) rfl)) (blkOk_by (N := n_table) (sc := fnScope s_table) (by decide +kernel)) (fun _ _ _ _ _ => (pg_name (i := 1) sc_table.nd rfl (.inl rfl))) (fun _ _ _ _ _ => pts_nil) (fun _ _ _ _ _ => (pe_lc (own := [("mark", 2)]) rfl sc_table.nd (pi_tupK K (pv 1)) (blkOk_by (N := n_table) (sc := ncs_table) (by decide +kernel)) (fun _ _ _ _ _ => (pg_name (i := 2) sc_table.nd rfl (.inl rfl))) (fun _ _ _ _ _ => pts_nil) (fun _ _ _ _ _ => (pe_mt c_m_num hr (by decide) (pv 0) (pa_cons (pv 2) pa_nil)))))))
      ), ?_⟩
    refine ⟨_, rfl, a, C, dx, _, _, rfl, r.ha, CH.cl, CH.nT, rl_steps, ?_⟩
    refine ⟨st, rfl, ⟨_, SqT.of r.hst⟩, fun D hD => ?_⟩
    refine lc_keepH keep_same (walk_tup (K := K) (a := st) (xs := ms.map fun x => V.ref (sa x))) hD (by rw [List.length_map]; exact small1000 (by omega)) (fun j y H => ∃ t, y = .ref t ∧ t ≠ D ∧ ∀ mm, ms[j]? = some mm → H t = some (.lst (tabI sg ms tg mm))) (fun H r1 => SqT.of (r1 _ _ r.hst))
      (fun _ _ _ _ _ r1 ⟨t, e, n, h⟩ => ⟨t, e, n, fun mm hm => r1 _ _ (h mm hm)⟩) (fun _ _ _ _ _ _ _ ⟨t, e, n, h⟩ => ⟨t, e, n, fun mm hm => by rw [upd_ne n]; exact h mm hm⟩) (fun i x H2 H2' acc R hi r2 hDa hy hR => ?_) (fun ys H2 hly hg r2 hDs => ?_)
    · obtain ⟨rfl, e⟩ := hy
      rw [List.getElem?_map] at e
      cases em : ms[i]? with
      | none => rw [em] at e; cases e
      | some mm =>
        rw [em] at e; cases e
        have hmem := List.mem_of_getElem? em
        have hsm := r2 _ _ (r.hsa mm hmem)
        refine ⟨rfl, ?_⟩
        refine ⟨_, rfl, sa mm, rfl, ⟨_, SqT.of hsm⟩, fun D2 hD2 => lc_keep keep_same (walk_tup (K := K) (a := sa mm) (xs := txs (sg.map (tg mm)))) hD2 (by rw [txs_len, List.length_map]; exact small1000 (by have := hgd.hsg.2.2.1; omega)) (fun j y => ∀ c, sg[j]? = some c → y = .int (ms.idxOf (tg mm c) : Nat)) (fun H3 r3 => SqT.of (r3 _ _ hsm)) (fun j z H3 H4 R2 hj r3 hy hR2 => ?_) (fun zs H3 hlz hgz r3 hDz => ?_)⟩
        · obtain ⟨rfl, e⟩ := hy
          obtain ⟨l, hl, rfl⟩ := txs_get e
          rw [List.getElem?_map] at hl
          cases ec : sg[j]? with
          | none => rw [ec] at hl; cases hl
          | some c =>
            rw [ec] at hl
            obtain rfl : tg mm c = l := Option.some.inj hl
            refine ⟨rfl, ?_⟩
            refine ⟨_, rfl, a, dx, _, rfl, (r2.trans r3) _ _ r.ha, rdr_no ht (by decide +kernel), _, rfl, ?_⟩
            exact ⟨a, sg, ms, f, tg, tg mm c, rfl, hrd.same (r2.trans r3), hgd.hnd, hgd.htg mm hmem c (List.mem_of_getElem? ec), hR2 _ _ (Same.refl _) fun c' h => by rw [Option.some.inj (ec.symm.trans h)]⟩
        · have ez : zs = tabI sg ms tg mm := by
            refine list_map (hlz.trans (by rw [txs_len, List.length_map])) fun j y c e1 e2 => hgz j y e1 c e2
          subst ez
          have nD : D2 ≠ D := fun e => by rw [e, hDa] at hD2; cases hD2
          exact hR _ _ r3 ⟨D2, rfl, nD, fun m2 h2 => by rw [em] at h2; cases h2; exact hDz⟩
    rw [List.length_map] at hly
    obtain ⟨ra, hra⟩ := fun_of (γ := Addr) hgd.hnd (P := fun j mm t => ys[j]? = some (V.ref t) ∧ H2 t = some (.lst (tabI sg ms tg mm))) fun j mm hj => by
      have hjl : j < ys.length := by rw [hly]; exact (List.getElem?_eq_some_iff.mp hj).1
      obtain ⟨t, e, _, h⟩ := hg j _ (List.getElem?_eq_getElem hjl)
      exact ⟨t, by rw [List.getElem?_eq_getElem hjl, e], h mm hj⟩
    have eys : ys = ms.map fun x => V.ref (ra x) := list_map hly fun j y x e1 e2 => by have := (hra j x e2).1; rw [e1] at this; exact Option.some.inj this
    subst eys
    exact k D ra H2 r2 hD hDs fun x hx => by obtain ⟨j, hj⟩ := List.getElem?_of_mem hx; exact (hra j x hj).2
abbrev s_cols : Stmt := top 23
abbrev n_cols : List Str := ["signs", "table", "at", "sign", "things"]
theorem sc_cols : FnScope n_cols ["signs", "table"] (fnScope s_cols) := fnScope_by (by decide +kernel)
abbrev ncs_cols : Scope := relS (outD (ofRet ((fnBody s_cols).getD 0 (.Pass ⟨0, 0, 0, 0⟩)))) (fnScope s_cols)
def spCols : Sp := fun vs H Q _ => ∃ (p : Addr) (sg : List Nat) (ms : List (List Nat)) (tg : List Nat → Nat → List Nat) (ra : List Nat → Addr), vs = [.str (S sg), .ref p] ∧ H p = some (.lst (ms.map fun x => .ref (ra x))) ∧ (∀ x ∈ ms, H (ra x) = some (.lst (tabI sg ms tg x))) ∧ ms.length ≤ 60 ∧ sg.length ≤ 3 ∧ sg.Nodup ∧
  ∀ (d : Addr) (ca : Nat → Addr) (H' : Hp), Same H H' → H d = none → ColAt H' d sg ms tg ca → Q (.ref d) H'
theorem ok_cols (T : BT mg) {f : Addr} {fd : FuncData} (F : Def K mg "columns_of" s_cols f fd) (b : Binds K fd ["signs", "table"] []) : Cal P w K mg base 1 "columns_of" spCols [] := by
  refine cal0 F b .nil sc_cols (fun vs H Q E h => ?_) (fun cdv A outer s H vs Q E hr h => ?_)
  · obtain ⟨p, sg, ms, tg, ra, rfl, _⟩ := h; rfl
  · obtain ⟨p, sg, ms, tg, ra, rfl, hp, hra, hm, hs3, hnd, k⟩ := h
    refine ⟨_, (pss_one (ps_ret (pe_dc (own := [("at", 2), ("sign", 3)]) rfl sc_cols.nd (pi_enumX (by rfl) T.m_enumerate (pa_cons (pv 0) pa_nil)) (blkOk_by (N := n_cols) (sc := fnScope s_cols) (by decide +kernel)) (fun _ _ _ _ _ => (tupK K 2 (pgs_cons (pg_name (i := 2) sc_cols.nd rfl (.inr rfl)) (pgs_cons (pg_name (i := 3) sc_cols.nd rfl (.inl rfl)) pgs_nil)))) (fun _ _ _ _ _ => pts_nil) (fun _ _ _ _ _ => (pv 3)) (fun _ _ _ _ _ => (pe_callTy (tupleK K) (by rfl) T.m_tuple PyProof.Rows.boot_tuple (pa_cons (pe_lc (own := [("things", 4)]) rfl sc_cols.nd (pi_listK K (pv 1)) (blkOk_by (N := n_cols) (sc := ncs_cols) (by decide +kernel)) (fun _ _ _ _ _ => (pg_name (i := 4) sc_cols.nd rfl (.inl rfl))) (fun _ _ _ _ _ => pts_nil) (fun _ _ _ _ _ => (pe_ix (ixl K) (pv 4) (pv 2) (fun _ _ => rfl)))) pa_nil)))))
      ), ?_⟩
    have hinj : ∀ i j, i < sg.length → j < i → tk [sg.getD j 0] ≠ tk [sg.getD i 0] := fun i j hi hj h => by
      have e := (List.cons.inj (tk_inj h)).1
      have hj2 : j < sg.length := by omega
      rw [List.getD_eq_getElem?_getD, List.getD_eq_getElem?_getD, List.getElem?_eq_getElem hi, List.getElem?_eq_getElem hj2] at e
      have e1 := hnd.idxOf_getElem i hi
      have e2 := hnd.idxOf_getElem j hj2
      rw [show sg[j] = sg[i] from e, e1] at e2
      omega
    have hget : ∀ {i c : Nat}, sg[i]? = some c → sg.getD i 0 = c := fun h => by rw [List.getD_eq_getElem?_getD, h]; rfl
    refine ⟨_, rfl, V.str (S sg), .txt (S sg), rfl, rfl, trivial, fun D hD => ?_⟩
    refine dc_keep keep_same (walk_enumX (K := K) (S := .txt (S sg)) (xs := sg.map fun c => V.str (S [c]))) hD (by rw [List.length_map]; exact small1000 (by omega)) (fun i => tk [sg.getD i 0]) (fun j y H => ∃ t, y = .ref t ∧ ∀ c, sg[j]? = some c → H t = some (.tup (colI ms tg c))) (fun H r => rfl) (fun i j hi hj => hinj i j (by rw [List.length_map] at hi; exact hi) hj)
      (fun _ _ _ _ _ r ⟨t, e, h⟩ => ⟨t, e, fun c hc => r _ _ (h c hc)⟩) (fun _ _ _ _ _ _ hDa ⟨t, e, h⟩ => ⟨t, e, fun c hc => by rw [upd_ne (ne_of (h c hc) hDa (by intro h; cases h))]; exact h c hc⟩) (fun i x H2 H3 acc R hi r hDa hy hR => ?_) (fun ys H2 hly hg r2 hDs => ?_)
    · obtain ⟨t, x1, x2, rfl, ht, rfl, e1, e2⟩ := hy
      obtain rfl : V.int (i : Nat) = x1 := Option.some.inj e1
      have e2 : (sg.map fun c => V.str (S [c]))[i]? = some x2 := e2
      rw [List.getElem?_map] at e2
      cases ec : sg[i]? with
      | none => rw [ec] at e2; cases e2
      | some c =>
        rw [ec] at e2
        obtain rfl : V.str (S [c]) = x2 := Option.some.inj e2
        have s3 : Same H2 (upd H2 t (.tup [.int (i : Nat), .str (S [c])])) := sm_new ht
        have ht3 : (upd H2 t (.tup [.int (i : Nat), .str (S [c])])) t = some (.tup [.int (i : Nat), .str (S [c])]) := upd_same
        generalize upd H2 t (.tup [.int (i : Nat), .str (S [c])]) = H3 at s3 ht3 ⊢
        refine ⟨t, _, rfl, .inl (.inl ht3), rfl, _, _, rfl, _, _, rfl, rfl, rfl, ?_⟩
        refine ⟨_, rfl, ?_⟩
        have hp3 := (r.trans s3) _ _ hp
        have hic : i < sg.length := (List.getElem?_eq_some_iff.mp ec).1
        refine ⟨_, rfl, p, rfl, ⟨_, SqL.of hp3⟩, fun D2 hD2 => lc_keep keep_same (walk_list (K := K) (a := p) (xs := ms.map fun x => V.ref (ra x))) hD2 (by rw [List.length_map]; exact small1000 (by omega)) (fun j y => ∀ mm, ms[j]? = some mm → y = .int (ms.idxOf (tg mm c) : Nat)) (fun H4 r4 => SqL.of (r4 _ _ hp3)) (fun j z H4 H5 R2 hj r4 hy hR2 => ?_) (fun zs H4 hlz hgz r4 hDz => ?_)⟩
        · obtain ⟨rfl, e⟩ := hy
          rw [List.getElem?_map] at e
          cases em : ms[j]? with
          | none => rw [em] at e; cases e
          | some mm =>
            rw [em] at e; cases e
            have hrow := ((r.trans s3).trans r4) _ _ (hra mm (List.mem_of_getElem? em))
            refine ⟨rfl, ?_⟩
            refine ⟨_, rfl, _, rfl, ra mm, tabI sg ms tg mm, (i : Nat), .int (ms.idxOf (tg mm c) : Nat), rfl, rfl, SqL.of hrow, at_of rfl (by unfold tabI; rw [List.getElem?_map, ec]; rfl), ?_⟩
            exact hR2 _ _ (Same.refl _) fun m2 h2 => by rw [Option.some.inj (em.symm.trans h2)]
        · have ez : zs = colI ms tg c := by
            unfold colI
            exact list_map (hlz.trans (by rw [List.length_map])) fun j y mm e1 e2 => hgz j y e1 mm e2
          subst ez
          refine nil1 ⟨D2, _, rfl, .inl ⟨SqL.of hDz, fun st hst => ?_⟩⟩
          rw [hget ec] at hR
          exact hR _ _ ((s3.trans r4).trans (sm_new hst)) ⟨st, rfl, fun c' hc' => by rw [Option.some.inj (hc'.symm.trans ec)]; exact upd_same⟩
    · rw [List.length_map] at hly hDs
      obtain ⟨ca, hca⟩ := fun_of (γ := Addr) hnd (P := fun j c t => ys[j]? = some (V.ref t) ∧ H2 t = some (.tup (colI ms tg c))) fun j c hj => by
        have hjl : j < ys.length := by rw [hly]; exact (List.getElem?_eq_some_iff.mp hj).1
        obtain ⟨t, e, h⟩ := hg j _ (List.getElem?_eq_getElem hjl)
        exact ⟨t, by rw [List.getElem?_eq_getElem hjl, e], h c hj⟩
      have eys : ys = sg.map fun c => V.ref (ca c) := list_map hly fun j y c e1 e2 => by have := (hca j c e2).1; rw [e1] at this; exact Option.some.inj this
      subst eys
      refine k D ca H2 r2 hD ⟨?_, fun c hc => by obtain ⟨j, hj⟩ := List.getElem?_of_mem hc; exact (hca j c hj).2⟩
      rw [hDs]
      have e : (sg.map fun c => V.ref (ca c)) = (List.range sg.length).map fun i => V.ref (ca (sg.getD i 0)) := by
        refine (list_of (by rw [List.length_map]) fun j y hy => ?_)
        rw [List.getElem?_map] at hy
        cases q : sg[j]? with
        | none => rw [q] at hy; cases hy
        | some x => rw [q] at hy; cases hy; rw [hget q]
      rw [e, zip_self_map (fun i => tk [sg.getD i 0])]
      congr 2
      symm
      unfold coK
      refine list_of (f := fun i => (tk [sg.getD i 0], V.ref (ca (sg.getD i 0)))) (by rw [List.length_map]) fun j y hy => ?_
      rw [List.getElem?_map] at hy
      cases q : sg[j]? with
      | none => rw [q] at hy; cases hy
      | some x => rw [q] at hy; cases hy; rw [hget q]
end
end Toy
set_option maxHeartbeats 4000000
namespace Toy
open PySem L2 C8 SX LX
local macro_rules | `(tactic| walk_at "c") => `(tactic| refine And.intro (by first | (show (0 : Int) < _; omega) | exact Or.inr ⟨by decide, by decide⟩ | exact Or.inl ⟨by decide, by decide⟩ | (exact ⟨by omega, by omega⟩)) ?_)
local macro_rules | `(tactic| walk_at "s1") => `(tactic| first | refine ⟨_, rfl, ?_⟩ | refine ⟨_, _, rfl, rfl, ?_⟩ | refine .inl ⟨_, rfl, ?_⟩ | walk_at "c")
local macro_rules | `(tactic| walk_at "s") => `(tactic| repeat (walk_at "s1"))
section
variable {P : Program} {w : World} {K : PySem.W.Frag} {mg : Str → Option Value} {base : Heap}
abbrev s_init : Stmt := inClass (top 19) 0
abbrev n_init : List Str := ["self", "signs", "marks", "first", "steps", "at", "mark", "targets"]
theorem sc_init : FnScope n_init ["self", "signs", "marks", "first", "steps"] (fnScope s_init) := fnScope_by (by decide +kernel)
def spInit (C : Addr) : Sp := fun vs H Q _ => ∃ (a dx q p : Addr) (b c d : Bool) (sg : List Nat) (ms : List (List Nat)) (f : List Nat) (tg : List Nat → Nat → List Nat) (pa : List Nat → Addr), vs = [.ref a, .str (S sg), .ref q, .str (S f), .ref p] ∧ H a = some (.ins C dx []) ∧
  H q = some (seqB b (txs ms)) ∧ H p = some (seqB c (ms.map fun x => .ref (pa x))) ∧ (∀ x ∈ ms, H (pa x) = some (seqB d (txs (sg.map (tg x))))) ∧ Good sg ms f tg ∧
  ∀ H', (∀ b o, b ≠ a → H b = some o → H' b = some o) → Rdr C H' a sg ms f tg → Q .non H'
theorem ok_init {C : Addr} (T : BT mg) (CH : CR K C) (c_issigns : Cal P w K mg base 3 "is_signs" spIsSigns []) (c_ismarks : Cal P w K mg base 4 "_is_marks" spIsMarks []) (c_issteps : Cal P w K mg base 3 "_is_steps" spIsSteps []) (c_table : Cal P w K mg base 2 "table_of" (spTable C) []) (c_cols : Cal P w K mg base 1 "columns_of" spCols []) (M : Mk K C f) (hm : mg "Reader" = some (.ref C)) {fd : FuncData} (F : C8.Fun K "__init__" "Reader.__init__" s_init f fd) (b : Binds K fd ["self", "signs", "marks", "first", "steps"] []) : Mak P w K mg base 5 "Reader" C (spInit C) [] := by
  refine mak0 M hm F b .nil sc_init (fun vs H Q E h => ?_) (fun cdv A outer s H vs Q E hr h => ?_)
  · obtain ⟨a, dx, q, p, b, c, d, sg, ms, f, tg, pa, rfl, _⟩ := h; rfl
  · obtain ⟨a, dx, q, p, b, c, d, sg, ms, f, tg, pa, rfl, ha, hq, hp, hpa, hgd, k⟩ := h
    refine ⟨_, (pss_cons (ps_if (pt_not (pt_val (pe_c c_issigns hr (by first | decide | omega) (by rfl) (pa_cons (pv 1) pa_nil)))) 
        (pss_one ps_never
        )
       pss_nil)
      (pss_cons (ps_if (pt_not (pt_val (pe_c c_ismarks hr (by first | decide | omega) (by rfl) (pa_cons (pv 2) pa_nil)))) 
        (pss_one ps_never
        )
       pss_nil)
      (pss_cons (ps_if (pt_cmpR (notInK K) (pv 3) (pv 2) rfl) 
        (pss_one ps_never
        )
       pss_nil)
      (pss_cons (ps_if (pt_not (pt_val (pe_c c_issteps hr (by first | decide | omega) (by rfl) (pa_cons (pv 4) (pa_cons (pv 1) (pa_cons (pv 2) pa_nil)))))) 
        (pss_one ps_never
        )
       pss_nil)
      (pss_cons (ps_fld (pv 0) (pv 1) rfl)
      (pss_cons (ps_fld (pv 0) (pe_callTy (tupleK K) (by rfl) T.m_tuple PyProof.Rows.boot_tuple (pa_cons (pv 2) pa_nil)) rfl)
      (pss_cons (ps_fld (pv 0) (pv 3) rfl)
      (pss_cons (ps_fld (pv 0) (pe_callTy (tupleK K) (by rfl) T.m_tuple PyProof.Rows.boot_tuple (pa_cons (pe_lc (own := [("targets", 7)]) rfl sc_init.nd (pi_seq (pv 4)) (blkOk_by (N := n_init) (sc := fnScope s_init) (by decide +kernel)) (fun _ _ _ _ _ => (pg_name (i := 7) sc_init.nd rfl (.inl rfl))) (fun _ _ _ _ _ => pts_nil) (fun _ _ _ _ _ => (pe_callTy (tupleK K) (by rfl) T.m_tuple PyProof.Rows.boot_tuple (pa_cons (pv 7) pa_nil)))) pa_nil)) rfl)
      (pss_cons (ps_fld (pv 0) (pe_dc (own := [("at", 5), ("mark", 6)]) rfl sc_init.nd (pi_enumX (by rfl) T.m_enumerate (pa_cons (fldK K (pv 0) rfl) pa_nil)) (blkOk_by (N := n_init) (sc := fnScope s_init) (by decide +kernel)) (fun _ _ _ _ _ => (tupK K 2 (pgs_cons (pg_name (i := 5) sc_init.nd rfl (.inl rfl)) (pgs_cons (pg_name (i := 6) sc_init.nd rfl (.inl rfl)) pgs_nil)))) (fun _ _ _ _ _ => pts_nil) (fun _ _ _ _ _ => (pv 6)) (fun _ _ _ _ _ => (pv 5))) rfl)
      (pss_cons (ps_fld (pv 0) (pe_dc (own := [("mark", 6), ("targets", 7)]) rfl sc_init.nd (pi_zipX (by rfl) T.m_zip (pa_cons (fldK K (pv 0) rfl) (pa_cons (fldK K (pv 0) rfl) pa_nil))) (blkOk_by (N := n_init) (sc := fnScope s_init) (by decide +kernel)) (fun _ _ _ _ _ => (tupK K 2 (pgs_cons (pg_name (i := 6) sc_init.nd rfl (.inl rfl)) (pgs_cons (pg_name (i := 7) sc_init.nd rfl (.inl rfl)) pgs_nil)))) (fun _ _ _ _ _ => pts_nil) (fun _ _ _ _ _ => (pv 6)) (fun _ _ _ _ _ => (dictZipK K rfl (by rfl) T.m_dict (by rfl) T.m_zip (pa_cons (pv 1) (pa_cons (pv 7) pa_nil))))) rfl)
      (pss_one (ps_fld (pv 0) (pe_c c_cols hr (by first | decide | omega) (by rfl) (pa_cons (pv 1) (pa_cons (pe_c c_table hr (by first | decide | omega) (by rfl) (pa_cons (pv 0) pa_nil)) pa_nil))) rfl)
      ))))))))))), ?_⟩
    refine ⟨_, rfl, sg, rfl, hgd.hsg, fun H1 s1 => ?_⟩
    refine ⟨true, rfl, iteN rfl ?_⟩
    refine ⟨_, rfl, q, b, ms, rfl, s1 _ _ hq, hgd.h1, by have := hgd.h8; omega, hgd.hnd, hgd.hnm, fun H2 s2 => ?_⟩
    refine ⟨true, rfl, iteN rfl ?_⟩
    have s12 := s1.trans s2
    refine ⟨_, rfl, _, rfl, q, txs ms, rfl, (all_of hq s12).or, rfl, flat_txs _, _, rfl, ?_⟩
    refine iteN (by rw [inV_txs, decide_eq_true hgd.hf]; rfl) ?_
    have hpa2 : ∀ (i : Nat) (x : Addr) (ts : List (List Nat)), (ms.map pa)[i]? = some x → (ms.map fun m => sg.map (tg m))[i]? = some ts → H2 x = some (seqB d (txs ts)) ∧ ts.length = sg.length ∧ ∀ t ∈ ts, t ∈ ms := fun i x ts e1 e2 => by
      rw [List.getElem?_map] at e1 e2
      cases e : ms[i]? with
      | none => rw [e] at e1; cases e1
      | some m =>
        rw [e] at e1 e2
        cases e1; cases e2
        have hmm := List.mem_of_getElem? e
        exact ⟨s12 _ _ (hpa m hmm), by rw [List.length_map], fun t ht => let ⟨c, hc, e⟩ := List.mem_map.mp ht; e ▸ hgd.htg m hmm c hc⟩
    refine ⟨_, rfl, _, rfl, _, rfl, p, q, c, d, b, ms.map pa, ms.map fun m => sg.map (tg m), ms, sg, rfl, by rw [List.map_map]; exact s12 _ _ hp, s12 _ _ hq, hgd.hsg.2.2.1, by have := hgd.h8; omega, by rw [List.length_map], by rw [List.length_map, List.length_map], hpa2, fun H3 s3 => ?_⟩
    refine ⟨true, rfl, iteN rfl ?_⟩
    have s13 := s12.trans s3
    have ha3 := s13 _ _ ha
    refine ⟨_, rfl, _, rfl, a, C, dx, [], rfl, ha3, CH.cl, CH.nS, (by show 0 < 1000; decide), ?_⟩
    have nqa : q ≠ a := ne_of (s13 _ _ hq) ha3 (by cases b <;> (intro h; cases h))
    have npa : p ≠ a := ne_of (s13 _ _ hp) ha3 (by cases c <;> (intro h; cases h))
    generalize hH4 : upd H3 a (.ins C dx (putF ("signs" : Str) (.str (S sg)) [])) = H4
    have k4 : ∀ x o, x ≠ a → H3 x = some o → H4 x = some o := fun x o n e => by rw [← hH4, upd_ne n]; exact e
    have ha4 : H4 a = some (.ins C dx [("signs", .str (S sg))]) := by rw [← hH4, upd_same]; rfl
    clear hH4
    unfold tSeq
    dsimp only
    unfold sFld
    refine tCB_tup (i := 2) rfl (k4 _ _ nqa (s13 _ _ hq)) fun m H5 s5 hm5 hmq hmn => ?_
    have ha5 := s5 _ _ ha4
    refine ⟨_, rfl, a, C, dx, _, rfl, ha5, CH.cl, CH.nM, (by show 1 < 1000; decide), ?_⟩
    rw [pf2]
    have nma : m ≠ a := ne_of hm5 ha5 (by intro h; cases h)
    generalize hH6 : upd H5 a (.ins C dx [("signs", .str (S sg)), ("marks", .ref m)]) = H6
    have k6 : ∀ x o, x ≠ a → H3 x = some o → H6 x = some o := fun x o n e => by rw [← hH6, upd_ne n]; exact s5 _ _ (k4 _ _ n e)
    have hm6 : H6 m = some (.tup (txs ms)) := by rw [← hH6, upd_ne nma]; exact hm5
    have ha6 : H6 a = some (.ins C dx [("signs", .str (S sg)), ("marks", .ref m)]) := by rw [← hH6, upd_same]
    clear hmq hmn
    clear hH6 hm5 ha5 s5 k4 ha4 H5 H4
    refine ⟨_, rfl, _, rfl, a, C, dx, _, rfl, ha6, CH.cl, CH.nF, (by show 2 < 1000; decide), ?_⟩
    rw [pf3]
    generalize hH7 : upd H6 a (.ins C dx [("signs", .str (S sg)), ("marks", .ref m), ("first", .str (S f))]) = H7
    have k7 : ∀ x o, x ≠ a → H3 x = some o → H7 x = some o := fun x o n e => by rw [← hH7, upd_ne n]; exact k6 _ _ n e
    have hm7 : H7 m = some (.tup (txs ms)) := by rw [← hH7, upd_ne nma]; exact hm6
    have ha7 : H7 a = some (.ins C dx [("signs", .str (S sg)), ("marks", .ref m), ("first", .str (S f))]) := by rw [← hH7, upd_same]
    clear hH7 hm6 ha6 k6 H6
    have hp7 := k7 _ _ npa (s13 _ _ hp)
    have hpa7 : ∀ x ∈ ms, H7 (pa x) = some (seqB d (txs (sg.map (tg x)))) := fun x hx => k7 _ _ (ne_of (s13 _ _ (hpa x hx)) ha3 (by cases d <;> (intro h; cases h))) (s13 _ _ (hpa x hx))
    have hsgn : sg.Nodup := hgd.hsg.1.imp fun h => by omega
    have h8 := hgd.h8
    refine ⟨_, rfl, p, c, _, rfl, SqB.of hp7, fun D hD => lc_keepH keep_same (walk_seq (K := K) (b := c) (a := p) (xs := ms.map fun x => V.ref (pa x))) hD (by rw [List.length_map]; exact small1000 (by omega)) (fun j y H => ∃ t, y = .ref t ∧ ∀ mm, ms[j]? = some mm → H t = some (.tup (txs (sg.map (tg mm))))) (fun H r => SqB.of (r _ _ hp7))
      (fun _ _ _ _ _ r ⟨t, e, h⟩ => ⟨t, e, fun mm hm => r _ _ (h mm hm)⟩) (fun _ _ _ _ _ _ hDa ⟨t, e, h⟩ => ⟨t, e, fun mm hm => by rw [upd_ne (ne_of (h mm hm) hDa (by intro h; cases h))]; exact h mm hm⟩) (fun i x H8 H8' acc R hi r hDa hy hR => ?_) (fun ys H8 hly hg r8 hDs => ?_)⟩
    · obtain ⟨rfl, e⟩ := hy
      rw [List.getElem?_map] at e
      cases em : ms[i]? with
      | none => rw [em] at e; cases e
      | some mm =>
        rw [em] at e; cases e
        refine ⟨rfl, ?_⟩
        refine ⟨_, rfl, pa mm, _, rfl, tupA (Q := R) (r _ _ (hpa7 mm (List.mem_of_getElem? em))) fun l H9 s9 hl9 _ _ => hR _ _ s9 ⟨l, rfl, fun m2 h2 => by rw [em] at h2; cases h2; exact hl9⟩⟩
    rw [List.length_map] at hly
    obtain ⟨sa, hsa⟩ := fun_of (γ := Addr) hgd.hnd (P := fun j mm t => ys[j]? = some (V.ref t) ∧ H8 t = some (.tup (txs (sg.map (tg mm))))) fun j mm hj => by
      have hjl : j < ys.length := by rw [hly]; exact (List.getElem?_eq_some_iff.mp hj).1
      obtain ⟨t, e, h⟩ := hg j _ (List.getElem?_eq_getElem hjl)
      exact ⟨t, by rw [List.getElem?_eq_getElem hjl, e], h mm hj⟩
    have eys : ys = ms.map fun x => V.ref (sa x) := list_map hly fun j y x e1 e2 => by have := (hsa j x e2).1; rw [e1] at this; exact Option.some.inj this
    have hsa8 : ∀ x ∈ ms, H8 (sa x) = some (.tup (txs (sg.map (tg x)))) := fun x hx => by obtain ⟨j, hj⟩ := List.getElem?_of_mem hx; exact (hsa j x hj).2
    clear hsa
    subst eys
    refine nil1 ⟨D, _, rfl, .inl ⟨SqL.of hDs, fun st hst => ?_⟩⟩
    have ha8 := r8 _ _ ha7
    have nsta : st ≠ a := (ne_of_none ha8 hst).symm
    refine ⟨_, rfl, a, C, dx, _, rfl, (by rw [upd_ne nsta.symm]; exact ha8), CH.cl, CH.nT, (by show 3 < 1000; decide), ?_⟩
    rw [pf4]
    generalize hH9 : upd (upd H8 st (.tup (ms.map fun x => V.ref (sa x)))) a (.ins C dx [("signs", .str (S sg)), ("marks", .ref m), ("first", .str (S f)), ("steps", .ref st)]) = H9
    have k9 : ∀ x o, x ≠ a → H8 x = some o → H9 x = some o := fun x o n e => by rw [← hH9, upd_ne n, upd_ne (ne_of_none e hst)]; exact e
    have hm9 : H9 m = some (.tup (txs ms)) := k9 _ _ nma (r8 _ _ hm7)
    have hst9 : H9 st = some (.tup (ms.map fun x => V.ref (sa x))) := by rw [← hH9, upd_ne nsta, upd_same]
    have hsa9 : ∀ x ∈ ms, H9 (sa x) = some (.tup (txs (sg.map (tg x)))) := fun x hx => k9 _ _ (ne_of (hsa8 x hx) ha8 (by intro h; cases h)) (hsa8 x hx)
    have ha9 : H9 a = some (.ins C dx [("signs", .str (S sg)), ("marks", .ref m), ("first", .str (S f)), ("steps", .ref st)]) := by rw [← hH9, upd_same]
    have kk9 : ∀ x o, x ≠ a → H3 x = some o → H9 x = some o := fun x o n e => k9 _ _ n (r8 _ _ (k7 _ _ n e))
    clear hH9 k9 hsa8 ha8 hst hDs hly hg r8 hD hpa7 hp7 k7 hm7 ha7
    refine ⟨_, rfl, a, C, dx, _, _, rfl, ha9, CH.cl, CH.nM, (show _ = some (V.ref m) by rfl), ?_⟩
    refine nil1 ⟨.ref m, .tup m, rfl, rfl, ⟨_, SqT.of hm9⟩, fun D2 hD2 => ?_⟩
    refine dc_keep keep_same (walk_enumX (K := K) (S := .tup m) (xs := txs ms)) hD2 (by rw [txs_len]; exact small1000 (by omega)) (fun i => tk (ms.getD i [])) (fun j y H => y = .int (j : Nat)) (fun H r => SqT.of (r _ _ hm9)) (fun i j hi hj => key_inj hgd.hnd i j (by rw [txs_len] at hi; exact hi) hj)
      (fun _ _ _ _ _ _ h => h) (fun _ _ _ _ _ _ _ h => h) (fun i x H10 H11 acc R hi r hDa hy hR => ?_) (fun ys H10 hly hg r10 hDs => ?_)
    · obtain ⟨t, x1, x2, rfl, ht, rfl, e1, e2⟩ := hy
      obtain rfl : V.int (i : Nat) = x1 := Option.some.inj e1
      obtain ⟨mm, hmm, rfl⟩ := txs_get (show (txs ms)[i]? = some x2 from e2)
      refine ⟨t, _, rfl, .inl (.inl upd_same), rfl, _, _, rfl, _, _, rfl, rfl, rfl, ?_⟩
      refine ⟨_, rfl, _, rfl, ?_⟩
      rw [getD_of hmm] at hR
      exact hR _ _ (sm_new ht) rfl
    have eys : ys = (List.range ms.length).map fun j => V.int (j : Nat) := list_of (by rw [hly, txs_len]) fun j y e => hg j y e
    subst eys
    have hnu10 : H10 D2 = some (.dK (numK ms)) := by
      rw [hDs, txs_len, zip_self_map (fun i => tk (ms.getD i []))]; rfl
    clear hDs hg hly
    have ha10 := r10 _ _ ha9
    have nD2a : D2 ≠ a := ne_of hnu10 ha10 (by intro h; cases h)
    refine ⟨_, rfl, a, C, dx, _, rfl, ha10, CH.cl, CH.nN, (by show 4 < 1000; decide), ?_⟩
    rw [pf5]
    generalize hH11 : upd H10 a (.ins C dx [("signs", .str (S sg)), ("marks", .ref m), ("first", .str (S f)), ("steps", .ref st), ("_numbers", .ref D2)]) = H11
    have k11 : ∀ x o, x ≠ a → H10 x = some o → H11 x = some o := fun x o n e => by rw [← hH11, upd_ne n]; exact e
    have hm11 := k11 _ _ nma (r10 _ _ hm9)
    have hst11 := k11 _ _ nsta (r10 _ _ hst9)
    have hsa11 : ∀ x ∈ ms, H11 (sa x) = some (.tup (txs (sg.map (tg x)))) := fun x hx => k11 _ _ (ne_of (hsa9 x hx) ha9 (by intro h; cases h)) (r10 _ _ (hsa9 x hx))
    have hnu11 := k11 _ _ nD2a hnu10
    have ha11 : H11 a = some (.ins C dx [("signs", .str (S sg)), ("marks", .ref m), ("first", .str (S f)), ("steps", .ref st), ("_numbers", .ref D2)]) := by rw [← hH11, upd_same]
    have kk11 : ∀ x o, x ≠ a → H3 x = some o → H11 x = some o := fun x o n e => k11 _ _ n (r10 _ _ (kk9 _ _ n e))
    clear hH11 k11 hnu10 ha10 r10 hD2 hm9 hst9 hsa9 ha9 kk9
    refine ⟨_, rfl, a, C, dx, _, _, rfl, ha11, CH.cl, CH.nM, (show _ = some (V.ref m) by rfl), ?_⟩
    refine ⟨_, rfl, a, C, dx, _, _, rfl, ha11, CH.cl, CH.nT, (show _ = some (V.ref st) by rfl), ?_⟩
    refine nil1 ⟨.ref m, .ref st, .tup m, .tup st, rfl, rfl, rfl, ⟨_, SqT.of hm11⟩, ⟨_, SqT.of hst11⟩, fun D3 hD3 => ?_⟩
    refine dc_keep (n := min (txs ms).length (ms.map fun x => V.ref (sa x)).length) keep_same (walk_zipX (K := K) (S1 := .tup m) (S2 := .tup st) (xs := txs ms) (ys := ms.map fun x => V.ref (sa x))) hD3 (Nat.lt_of_le_of_lt (Nat.min_le_left _ _) (by rw [txs_len]; exact small1000 (by omega))) (fun i => tk (ms.getD i [])) (fun j y H => ∃ t, y = .ref t ∧ t ≠ D3 ∧ ∀ mm, ms[j]? = some mm → H t = some (.dK (laK sg (tg mm)))) (fun H r => ⟨SqT.of (r _ _ hm11), SqT.of (r _ _ hst11)⟩)
      (fun i j hi hj => key_inj hgd.hnd i j (by rw [txs_len] at hi; exact Nat.lt_of_lt_of_le hi (Nat.min_le_left _ _)) hj)
      (fun _ _ _ _ _ r ⟨t, e, n, h⟩ => ⟨t, e, n, fun mm hm => r _ _ (h mm hm)⟩) (fun _ _ _ _ _ _ _ ⟨t, e, n, h⟩ => ⟨t, e, n, fun mm hm => by rw [upd_ne n]; exact h mm hm⟩) (fun i x H12 H13 acc R hi r hDa hy hR => ?_) (fun ys H12 hly hg r12 hDs => ?_)
    · obtain ⟨t, x1, x2, rfl, ht, rfl, e1, e2⟩ := hy
      obtain ⟨mm, hmm, rfl⟩ := txs_get (show (txs ms)[i]? = some x1 from e1)
      have e2 : (ms.map fun x => V.ref (sa x))[i]? = some x2 := e2
      rw [List.getElem?_map, hmm] at e2
      obtain rfl : V.ref (sa mm) = x2 := Option.some.inj e2
      have hmem := List.mem_of_getElem? hmm
      refine ⟨t, _, rfl, .inl (.inl upd_same), rfl, _, _, rfl, _, _, rfl, rfl, rfl, ?_⟩
      refine ⟨_, rfl, _, rfl, _, rfl, sg, sa mm, txs (sg.map (tg mm)), rfl, SqT.of ((sm_new ht) _ _ (r _ _ (hsa11 mm hmem))), by rw [txs_len, List.length_map], by have := hgd.hsg.2.2.1; omega, fun d2 hd2 => ?_⟩
      rw [la_dict hsgn]
      have hne : d2 ≠ D3 := fun e => by rw [e, upd_ne (ne_of_none hDa ht)] at hd2; rw [hDa] at hd2; cases hd2
      rw [getD_of hmm] at hR
      exact hR _ _ (sm_put' (sm_new ht) hd2) ⟨d2, rfl, hne, fun m2 h2 => by rw [hmm] at h2; cases h2; exact upd_same⟩
    have hly2 : ys.length = ms.length := by rw [hly, txs_len, List.length_map, Nat.min_self]
    obtain ⟨la, hla⟩ := fun_of (γ := Addr) hgd.hnd (P := fun j mm t => ys[j]? = some (V.ref t) ∧ H12 t = some (.dK (laK sg (tg mm)))) fun j mm hj => by
      have hjl : j < ys.length := by rw [hly2]; exact (List.getElem?_eq_some_iff.mp hj).1
      obtain ⟨t, e, _, h⟩ := hg j _ (List.getElem?_eq_getElem hjl)
      exact ⟨t, by rw [List.getElem?_eq_getElem hjl, e], h mm hj⟩
    have eys : ys = ms.map fun x => V.ref (la x) := list_map hly2 fun j y x e1 e2 => by have := (hla j x e2).1; rw [e1] at this; exact Option.some.inj this
    have hla12 : ∀ x ∈ ms, H12 (la x) = some (.dK (laK sg (tg x))) := fun x hx => by obtain ⟨j, hj⟩ := List.getElem?_of_mem hx; exact (hla j x hj).2
    subst eys
    have hle12 : H12 D3 = some (.dK (leK ms la)) := by
      rw [hDs, txs_len, List.length_map, Nat.min_self]
      have e : (ms.map fun x => V.ref (la x)) = (List.range ms.length).map fun i => V.ref (la (ms.getD i [])) := by
        refine (list_of (by rw [List.length_map]) fun j y hy => ?_)
        rw [List.getElem?_map] at hy
        cases q : ms[j]? with
        | none => rw [q] at hy; cases hy
        | some x => rw [q] at hy; cases hy; rw [getD_of q]
      rw [e, zip_self_map (fun i => tk (ms.getD i []))]
      congr 2
      symm
      unfold leK
      refine list_of (f := fun i => (tk (ms.getD i []), V.ref (la (ms.getD i [])))) (by rw [List.length_map]) fun j y hy => ?_
      rw [List.getElem?_map] at hy
      cases q : ms[j]? with
      | none => rw [q] at hy; cases hy
      | some x => rw [q] at hy; cases hy; rw [getD_of q]
    have ha12 := r12 _ _ ha11
    refine ⟨_, rfl, a, C, dx, _, rfl, ha12, CH.cl, CH.nL, (by show 5 < 1000; decide), ?_⟩
    rw [pf6]
    have hR0 : RdrAt C (upd H12 a (.ins C dx (rdF sg m f st D2 D3 []))) a sg ms f tg dx m st D2 D3 sa la [] := by
      refine ⟨upd_same, ?_, ?_, fun x hx => ?_, ?_, ?_, fun x hx => ?_⟩
      · rw [upd_ne nma]; exact r12 _ _ hm11
      · rw [upd_ne nsta]; exact r12 _ _ hst11
      · rw [upd_ne (ne_of (hsa11 x hx) ha11 (by intro h; cases h))]; exact r12 _ _ (hsa11 x hx)
      · rw [upd_ne nD2a]; exact r12 _ _ hnu11
      · rw [upd_ne (ne_of hle12 ha12 (by intro h; cases h))]; exact hle12
      · rw [upd_ne (ne_of (hla12 x hx) ha12 (by intro h; cases h))]; exact hla12 x hx
    have kk13 : ∀ x o, x ≠ a → H3 x = some o → (upd H12 a (.ins C dx (rdF sg m f st D2 D3 []))) x = some o := fun x o n e => by rw [upd_ne n]; exact r12 _ _ (kk11 _ _ n e)
    show (fun H13 => _) (upd H12 a (.ins C dx (rdF sg m f st D2 D3 [])))
    generalize upd H12 a (.ins C dx (rdF sg m f st D2 D3 [])) = H13 at hR0 kk13 ⊢
    refine ⟨_, rfl, _, rfl, a, sg, ms, f, tg, rfl, ⟨dx, m, st, D2, D3, sa, la, [], .inl rfl, hR0⟩, hgd, fun tb ra H14 s14 n14 h14 hra => ?_⟩
    refine ⟨tb, sg, ms, tg, ra, rfl, h14, hra, by omega, hgd.hsg.2.2.1, hsgn, fun co ca H15 s15 n15 hcol => ?_⟩
    have hR2 := hR0.same (s14.trans s15)
    refine ⟨_, rfl, a, C, dx, _, rfl, hR2.ha, CH.cl, CH.nC, (by show 6 < 1000; decide), ?_⟩
    rw [show putF ("_columns" : Str) (V.ref co) (rdF sg m f st D2 D3 []) = rdF sg m f st D2 D3 [("_columns", .ref co)] from pf7 _ _ _ _ _ _ _]
    have nin : ∀ {x : Addr} {o : HO}, H15 x = some o → (∀ c d fs, o ≠ .ins c d fs) → x ≠ a := fun e n z => by rw [z, hR2.ha] at e; exact n _ _ _ (Option.some.inj e).symm
    refine k _ (fun x o n e => by rw [upd_ne n]; exact (s14.trans s15) _ _ (kk13 _ _ n (s13 _ _ e))) ⟨dx, m, st, D2, D3, sa, la, co, ca, ⟨upd_same, ?_, ?_, fun x hx => ?_, ?_, ?_, fun x hx => ?_⟩, ⟨?_, fun c hc => ?_⟩⟩
    · rw [upd_ne (nin hR2.hm (by intro _ _ _ h; cases h))]; exact hR2.hm
    · rw [upd_ne (nin hR2.hst (by intro _ _ _ h; cases h))]; exact hR2.hst
    · rw [upd_ne (nin (hR2.hsa x hx) (by intro _ _ _ h; cases h))]; exact hR2.hsa x hx
    · rw [upd_ne (nin hR2.hnu (by intro _ _ _ h; cases h))]; exact hR2.hnu
    · rw [upd_ne (nin hR2.hle (by intro _ _ _ h; cases h))]; exact hR2.hle
    · rw [upd_ne (nin (hR2.hla x hx) (by intro _ _ _ h; cases h))]; exact hR2.hla x hx
    · rw [upd_ne (nin hcol.hco (by intro _ _ _ h; cases h))]; exact hcol.hco
    · rw [upd_ne (nin (hcol.hca c hc) (by intro _ _ _ h; cases h))]; exact hcol.hca c hc
end
end Toy
set_option maxHeartbeats 2000000
namespace Toy
open PySem L2 C8 SX LX
abbrev WT := List (List Nat × List Nat)
def inT (lead : List Nat → Nat → List Nat) (t r : List Nat) : Nat → List Nat → WT → WT
  | _, [], L => L
  | i, c :: cs, L => if lead t i ∈ L.map (·.1) then inT lead t r (i + 1) cs L else inT lead t r (i + 1) cs (L ++ [(lead t i, r ++ [c])])
def outT (lead : List Nat → Nat → List Nat) (sg : List Nat) : Nat → Nat → WT → WT
  | 0, _, L => L
  | n + 1, at_, L => match L[at_]? with
    | none => L
    | some (t, r) => outT lead sg n (at_ + 1) (inT lead t r 0 sg L)
def walkT (lead : List Nat → Nat → List Nat) (sg : List Nat) (b : List Nat) : WT := outT lead sg 257 0 [(b, [])]
theorem outT_some {lead : List Nat → Nat → List Nat} {sg : List Nat} {n at_ : Nat} {L : WT} {t r : List Nat} (h : L[at_]? = some (t, r)) : outT lead sg (n + 1) at_ L = outT lead sg n (at_ + 1) (inT lead t r 0 sg L) := by
  show (match L[at_]? with | none => L | some (t, r) => outT lead sg n (at_ + 1) (inT lead t r 0 sg L)) = _
  rw [h]
theorem outT_none {lead : List Nat → Nat → List Nat} {sg : List Nat} {n at_ : Nat} {L : WT} (h : L.length ≤ at_) : outT lead sg n at_ L = L := by
  cases n with
  | zero => rfl
  | succ n =>
    show (match L[at_]? with | none => L | some (t, r) => outT lead sg n (at_ + 1) (inT lead t r 0 sg L)) = _
    rw [List.getElem?_eq_none h]
theorem inT_in {lead : List Nat → Nat → List Nat} {t r : List Nat} {i c : Nat} {cs : List Nat} {L : WT} (h : lead t i ∈ L.map (·.1)) : inT lead t r i (c :: cs) L = inT lead t r (i + 1) cs L := by
  show (if lead t i ∈ L.map (·.1) then _ else _) = _
  rw [if_pos h]
theorem inT_new {lead : List Nat → Nat → List Nat} {t r : List Nat} {i c : Nat} {cs : List Nat} {L : WT} (h : lead t i ∉ L.map (·.1)) : inT lead t r i (c :: cs) L = inT lead t r (i + 1) cs (L ++ [(lead t i, r ++ [c])]) := by
  show (if lead t i ∈ L.map (·.1) then _ else _) = _
  rw [if_neg h]
def allT (n : Nat) : Nat → List (List Nat)
  | 0 => [[]]
  | k + 1 => (List.range n).flatMap fun x => (allT n k).map fun l => x :: l
theorem mem_allT {n : Nat} : ∀ {l : List Nat}, (∀ x ∈ l, x < n) → l ∈ allT n l.length
  | [], _ => List.mem_cons_self
  | x :: l, h => by
    show x :: l ∈ (List.range n).flatMap fun x => (allT n l.length).map fun l => x :: l
    exact List.mem_flatMap.mpr ⟨x, List.mem_range.mpr (h x List.mem_cons_self), List.mem_map.mpr ⟨l, mem_allT fun y hy => h y (List.mem_cons_of_mem _ hy), rfl⟩⟩
def Tn (n : Nat) (t : List Nat) : Prop := t.length = n ∧ ∀ x ∈ t, x < n
theorem nodup_sub {α : Type} [BEq α] [LawfulBEq α] : ∀ (U l : List α), l.Nodup → (∀ x ∈ l, x ∈ U) → l.length ≤ U.length
  | [], l, _, h => by
    cases l with
    | nil => exact Nat.le_refl _
    | cons a l => exact absurd (h a List.mem_cons_self) (by intro z; cases z)
  | u :: U, l, nd, h => by
    have := nodup_sub U (l.erase u) (nd.erase u) fun x hx => by
      have h1 := (nd.mem_erase_iff).mp hx
      rcases List.mem_cons.mp (h x h1.2) with z | z
      · exact absurd z h1.1
      · exact z
    have e := List.length_erase (a := u) (l := l)
    rw [List.length_cons]
    split at e <;> omega
theorem allT_len : (allT 0 0).length ≤ 256 ∧ (allT 1 1).length ≤ 256 ∧ (allT 2 2).length ≤ 256 ∧ (allT 3 3).length ≤ 256 ∧ (allT 4 4).length ≤ 256 := by decide +kernel
structure TOk (n : Nat) (L : WT) : Prop where
  nd : (L.map (·.1)).Nodup
  mem : ∀ p ∈ L, Tn n p.1
  rl : ∀ p ∈ L, p.2.length < L.length
theorem TOk.len {n : Nat} (hn : n ≤ 4) {L : WT} (h : TOk n L) : L.length ≤ 256 := by
  have h1 := nodup_sub (allT n n) (L.map (·.1)) h.nd fun x hx => by
    obtain ⟨p, hp, rfl⟩ := List.mem_map.mp hx
    obtain ⟨e, f⟩ := h.mem p hp
    have := mem_allT (n := n) f
    rw [e] at this; exact this
  rw [List.length_map] at h1
  obtain ⟨a, b, c, d, e⟩ := allT_len
  have : n = 0 ∨ n = 1 ∨ n = 2 ∨ n = 3 ∨ n = 4 := by omega
  rcases this with rfl | rfl | rfl | rfl | rfl
  · exact Nat.le_trans h1 a
  · exact Nat.le_trans h1 b
  · exact Nat.le_trans h1 c
  · exact Nat.le_trans h1 d
  · exact Nat.le_trans h1 e
theorem TOk.put {n : Nat} {L : WT} (h : TOk n L) {f r : List Nat} (hf : Tn n f) (hn : f ∉ L.map (·.1)) (hr : r.length ≤ L.length) : TOk n (L ++ [(f, r)]) := by
  refine ⟨?_, fun p hp => ?_, fun p hp => ?_⟩
  · rw [List.map_append, List.nodup_append]
    refine ⟨h.nd, by simp, fun a ha b hb e => ?_⟩
    have : b = f := by simpa using hb
    subst this; subst e; exact hn ha
  · rcases List.mem_append.mp hp with q | q
    · exact h.mem p q
    · rw [List.mem_singleton.mp q]; exact hf
  · rw [List.length_append, List.length_singleton]
    rcases List.mem_append.mp hp with q | q
    · exact Nat.lt_succ_of_lt (h.rl p q)
    · rw [List.mem_singleton.mp q]; exact Nat.lt_succ_of_le hr
theorem TOk.one {n : Nat} {b : List Nat} (hb : Tn n b) : TOk n [(b, [])] := ⟨by simp, fun q hq => by rw [List.mem_singleton.mp hq]; exact hb, fun q hq => by rw [List.mem_singleton.mp hq]; exact Nat.zero_lt_one⟩
theorem inT_ok {lead : List Nat → Nat → List Nat} {n : Nat} {t r : List Nat} : ∀ (cs : List Nat) (i : Nat) (L : WT), TOk n L → (t, r) ∈ L → (∀ j, i ≤ j → j < i + cs.length → Tn n (lead t j)) → TOk n (inT lead t r i cs L)
  | [], _, L, h, _, _ => h
  | c :: cs, i, L, h, ht, hl => by
    have ih : ∀ L : WT, TOk n L → (t, r) ∈ L → TOk n (inT lead t r (i + 1) cs L) := fun L h ht => inT_ok cs (i + 1) L h ht fun j h1 h2 => hl j (by omega) (by simp only [List.length_cons]; omega)
    by_cases hin : lead t i ∈ L.map (·.1)
    · rw [inT_in hin]; exact ih L h ht
    · rw [inT_new hin]
      have hp : TOk n (L ++ [(lead t i, r ++ [c])]) := h.put (hl i (Nat.le_refl _) (by simp only [List.length_cons]; omega)) hin (by have := h.rl _ ht; rw [List.length_append, List.length_singleton]; exact this)
      exact ih _ hp (List.mem_append_left _ ht)
theorem outT_ok {lead : List Nat → Nat → List Nat} {sg : List Nat} {n : Nat} (hlead : ∀ t i, Tn n t → i < sg.length → Tn n (lead t i)) : ∀ (k at_ : Nat) (L : WT), TOk n L → TOk n (outT lead sg k at_ L)
  | 0, _, L, h => h
  | k + 1, at_, L, h => by
    cases e : L[at_]? with
    | none => rw [outT_none (by rw [List.getElem?_eq_none_iff] at e; exact e)]; exact h
    | some q =>
      obtain ⟨t, r⟩ := q
      have hm := List.mem_of_getElem? e
      rw [outT_some e]
      exact outT_ok hlead k _ _ (inT_ok sg 0 L h hm fun j _ h2 => hlead _ _ (h.mem _ hm) (by omega))
theorem walkT_ok {lead : List Nat → Nat → List Nat} {sg b : List Nat} {n : Nat} (hb : Tn n b) (hlead : ∀ t i, Tn n t → i < sg.length → Tn n (lead t i)) : TOk n (walkT lead sg b) := outT_ok hlead _ _ _ (TOk.one hb)
def tK (kf : List Nat → List Key) (L : WT) : List (List Key × V) := L.map fun p => (kf p.1, .str (S p.2))
section
variable {kf : List Nat → List Key} {L : WT} {f r : List Nat}
theorem valV_none' {kvs : List (List Key × V)} {k : List Key} (h : ∀ p ∈ kvs, p.1 ≠ k) : valV kvs k = none := by
  induction kvs with
  | nil => rfl
  | cons p r ih => rw [valV_neg (h p List.mem_cons_self)]; exact ih fun q hq => h q (List.mem_cons_of_mem _ hq)
theorem tK_none (hk : ∀ p ∈ L, kf p.1 = kf f → p.1 = f) (h : f ∉ L.map (·.1)) : valV (tK kf L) (kf f) = none := valV_none' fun p hp e => by
  obtain ⟨q, hq, rfl⟩ := List.mem_map.mp hp
  exact h (List.mem_map.mpr ⟨q, hq, hk q hq e⟩)
theorem tK_some (hk : ∀ p ∈ L, kf p.1 = kf f → p.1 = f) (nd : (L.map (·.1)).Nodup) (h : (f, r) ∈ L) : valV (tK kf L) (kf f) = some (.str (S r)) := by
  induction L with
  | nil => cases h
  | cons p L ih =>
    rw [List.map_cons, List.nodup_cons] at nd
    unfold tK at ih ⊢
    rw [List.map_cons]
    rcases List.mem_cons.mp h with e | e
    · rw [← e]; exact valV_pos rfl
    · rw [valV_neg fun q => ?_]
      · exact ih (fun q hq => hk q (List.mem_cons_of_mem _ hq)) nd.2 e
      · have : p.1 = f := hk p List.mem_cons_self q
        exact nd.1 (by rw [this]; exact List.mem_map.mpr ⟨(f, r), e, rfl⟩)
theorem putK_tK (hk : ∀ p ∈ L, kf p.1 = kf f → p.1 = f) (h : f ∉ L.map (·.1)) : putK (tK kf L) (kf f) (.str (S r)) = tK kf (L ++ [(f, r)]) := by
  rw [putK_new _ (tK_none hk h)]; unfold tK; rw [List.map_append]; rfl
end
theorem tK_len (kf : List Nat → List Key) (L : WT) : (tK kf L).length = L.length := by unfold tK; rw [List.length_map]
def kI (t : List Nat) : List Key := t.map fun i => Sum.inl ((i : Nat) : Int)
def tI (t : List Nat) : List V := t.map fun i => V.int (i : Nat)
theorem kI_tI (t : List Nat) : (kI t).map kV = tI t := by unfold kI tI; rw [List.map_map]; rfl
theorem kI_inj : ∀ {a b : List Nat}, kI a = kI b → a = b
  | [], [], _ => rfl
  | [], _ :: _, h => by cases h
  | _ :: _, [], h => by cases h
  | x :: a, y :: b, h => by
    unfold kI at h
    rw [List.map_cons, List.map_cons, List.cons.injEq] at h
    have e := Sum.inl.inj h.1
    rw [kI_inj (a := a) (b := b) h.2, show x = y by omega]
def nmT (ms : List (List Nat)) (t : List Nat) : List (List Nat) := t.map fun i => ms.getD i []
def kN (ms : List (List Nat)) (t : List Nat) : List Key := (nmT ms t).map fun l => Sum.inr (S l)
theorem kN_txs (ms : List (List Nat)) (t : List Nat) : (kN ms t).map kV = txs (nmT ms t) := by unfold kN txs; rw [List.map_map]; rfl
theorem getD_inj {ms : List (List Nat)} (nd : ms.Nodup) {i j : Nat} (hi : i < ms.length) (hj : j < ms.length) (e : ms.getD i [] = ms.getD j []) : i = j := by
  rw [List.getD_eq_getElem?_getD, List.getD_eq_getElem?_getD, List.getElem?_eq_getElem hi, List.getElem?_eq_getElem hj] at e
  have e1 := nd.idxOf_getElem i hi
  have e2 := nd.idxOf_getElem j hj
  rw [show ms[i] = ms[j] from e, e2] at e1
  exact e1.symm
theorem kN_inj {ms : List (List Nat)} (nd : ms.Nodup) : ∀ {a b : List Nat}, (∀ x ∈ a, x < ms.length) → (∀ x ∈ b, x < ms.length) → kN ms a = kN ms b → a = b
  | [], [], _, _, _ => rfl
  | [], _ :: _, _, _, h => by cases h
  | _ :: _, [], _, _, h => by cases h
  | x :: a, y :: b, ha, hb, h => by
    unfold kN nmT at h
    rw [List.map_cons, List.map_cons, List.map_cons, List.map_cons, List.cons.injEq] at h
    have e := S_inj (Sum.inr.inj h.1)
    rw [kN_inj nd (a := a) (b := b) (fun z hz => ha z (List.mem_cons_of_mem _ hz)) (fun z hz => hb z (List.mem_cons_of_mem _ hz)) h.2, getD_inj nd (ha x List.mem_cons_self) (hb y List.mem_cons_self) e]
def leadN (sg : List Nat) (ms : List (List Nat)) (tg : List Nat → Nat → List Nat) (t : List Nat) (i : Nat) : List Nat := t.map fun x => ms.idxOf (tg (ms.getD x []) (sg.getD i 0))
theorem leadN_ok {sg : List Nat} {ms : List (List Nat)} {tg : List Nat → Nat → List Nat} (htg : ∀ m ∈ ms, ∀ c ∈ sg, tg m c ∈ ms) {n : Nat} (hn : n = ms.length) : ∀ t i, Tn n t → i < sg.length → Tn n (leadN sg ms tg t i) := fun t i ⟨h1, h2⟩ hi => by
  subst hn
  refine ⟨by unfold leadN; rw [List.length_map]; exact h1, fun x hx => ?_⟩
  unfold leadN at hx
  obtain ⟨y, hy, rfl⟩ := List.mem_map.mp hx
  refine List.idxOf_lt_length_of_mem (htg _ ?_ _ ?_)
  · rw [List.getD_eq_getElem?_getD, List.getElem?_eq_getElem (h2 y hy)]; exact List.getElem_mem _
  · rw [List.getD_eq_getElem?_getD, List.getElem?_eq_getElem hi]; exact List.getElem_mem _
theorem getD_idx {ms : List (List Nat)} {x : List Nat} (h : x ∈ ms) : ms.getD (ms.idxOf x) [] = x := by
  have hl := List.idxOf_lt_length_of_mem h
  rw [List.getD_eq_getElem?_getD, List.getElem?_eq_getElem hl]
  exact List.getElem_idxOf hl
def deedN (ms : List (List Nat)) (tg : List Nat → Nat → List Nat) (l : List Nat) : List Nat := ms.map fun m => ms.idxOf (ledTo tg m l)
theorem deedN_step {sg : List Nat} {ms : List (List Nat)} {tg : List Nat → Nat → List Nat} (htg : ∀ m ∈ ms, ∀ c ∈ sg, tg m c ∈ ms) {l : List Nat} (ho : Ov sg l) {i c : Nat} (hc : sg[i]? = some c) : leadN sg ms tg (deedN ms tg l) i = deedN ms tg (l ++ [c]) := by
  unfold leadN deedN
  rw [List.map_map]
  refine List.map_congr_left fun m hm => ?_
  show ms.idxOf (tg (ms.getD (ms.idxOf (ledTo tg m l)) []) (sg.getD i 0)) = _
  rw [getD_idx (led_in htg ho hm), List.getD_eq_getElem?_getD, hc]
  unfold ledTo
  rw [List.foldl_append]; rfl
theorem deedN_ok {sg : List Nat} {ms : List (List Nat)} {tg : List Nat → Nat → List Nat} (htg : ∀ m ∈ ms, ∀ c ∈ sg, tg m c ∈ ms) {l : List Nat} (ho : Ov sg l) : Tn ms.length (deedN ms tg l) := by
  refine ⟨by unfold deedN; rw [List.length_map], fun x hx => ?_⟩
  obtain ⟨m, hm, rfl⟩ := List.mem_map.mp hx
  exact List.idxOf_lt_length_of_mem (led_in htg ho hm)
theorem deed_names {sg : List Nat} {ms : List (List Nat)} {tg : List Nat → Nat → List Nat} (htg : ∀ m ∈ ms, ∀ c ∈ sg, tg m c ∈ ms) {l : List Nat} (ho : Ov sg l) : nmT ms (deedN ms tg l) = ms.map fun m => ledTo tg m l := by
  unfold nmT deedN
  rw [List.map_map]
  exact List.map_congr_left fun m hm => getD_idx (led_in htg ho hm)
theorem deedN_nil {ms : List (List Nat)} {tg : List Nat → Nat → List Nat} (nd : ms.Nodup) : deedN ms tg [] = List.range ms.length := by
  refine List.ext_getElem? fun j => ?_
  unfold deedN
  rw [List.getElem?_map]
  rcases Nat.lt_or_ge j ms.length with h | h
  · rw [List.getElem?_eq_getElem h, List.getElem?_range h]
    show some (ms.idxOf ms[j]) = some j
    rw [nd.idxOf_getElem j h]
  · rw [List.getElem?_eq_none h, List.getElem?_eq_none (by rw [List.length_range]; exact h)]; rfl
def DOk (sg : List Nat) (ms : List (List Nat)) (tg : List Nat → Nat → List Nat) (L : WT) : Prop := ∀ p ∈ L, p.1 = deedN ms tg p.2 ∧ Ov sg p.2
end Toy
set_option maxHeartbeats 2000000
namespace Toy
open PySem L2 C8 SX LX
section
variable {P : Program} {w : World} {K : PySem.W.Frag} {mg : Str → Option Value} {base : Heap}
def tgD (kvs : List (List Key × V)) (m : List Nat) (c : Nat) : List Nat := match valV kvs (ky m c) with
  | some (.str s) => s.cps.toList
  | _ => []
theorem Full.at_ {ms : List (List Nat)} {sg : List Nat} {kvs : List (List Key × V)} (h : Full ms sg kvs) {m : List Nat} (hm : m ∈ ms) {c : Nat} (hc : c ∈ sg) : valV kvs (ky m c) = some (.str (S (tgD kvs m c))) ∧ tgD kvs m c ∈ ms := by
  obtain ⟨x, hx, e⟩ := h m hm c hc
  have e2 : tgD kvs m c = x := by unfold tgD; rw [e]
  rw [e2]; exact ⟨e, hx⟩
theorem Draft.same {H H' : Hp} {q pm pd : Addr} {ms : List (List Nat)} {b sg : List Nat} {kvs : List (List Key × V)} (d : Draft K H q pm pd ms b sg kvs) (s : Same H H') : Draft K H' q pm pd ms b sg kvs :=
  ⟨s _ _ d.top, s _ _ d.marks, s _ _ d.goes, d.full, d.few, d.first, d.nd, d.nm, d.pos⟩
theorem names_ok : ∀ m ∈ names5, Name m := by decide
theorem names_sub {l : List (List Nat)} (nd : l.Nodup) (h : ∀ m ∈ l, m ∈ names5) : l.length ≤ 5 := by
  have key : ∀ (U l : List (List Nat)), l.Nodup → (∀ x ∈ l, x ∈ U) → l.length ≤ U.length := by
    intro U
    induction U with
    | nil =>
      intro l _ h
      cases l with
      | nil => exact Nat.le_refl _
      | cons a l => exact absurd (h a List.mem_cons_self) (by intro z; cases z)
    | cons u U ih =>
      intro l nd h
      have := ih (l.erase u) (nd.erase u) fun x hx => by
        have h1 := (nd.mem_erase_iff).mp hx
        rcases List.mem_cons.mp (h x h1.2) with z | z
        · exact absurd z h1.1
        · exact z
      have e := List.length_erase (a := u) (l := l)
      rw [List.length_cons]
      split at e <;> omega
  exact key names5 l nd h
theorem Draft.good {H : Hp} {q pm pd : Addr} {ms : List (List Nat)} {b sg : List Nat} {kvs : List (List Key × V)} (d : Draft K H q pm pd ms b sg kvs) (hs : Sg sg) : Good sg ms b (tgD kvs) :=
  ⟨hs, d.nd, d.pos, Nat.le_trans (names_sub d.nd d.nm) (by decide), fun m hm => names_ok m (d.nm m hm), d.first, fun m hm c hc => (d.full.at_ hm hc).2⟩
abbrev s_lreader : Stmt := top 41
abbrev n_lreader : List Str := ["signs_here", "draft", "marks_here", "begin", "goes", "rows_here", "mark", "sign"]
theorem sc_lreader : FnScope n_lreader ["signs_here", "draft"] (fnScope s_lreader) := fnScope_by (by decide +kernel)
abbrev ncs_lreader : Scope := relS (outS (ofRet ((fnBody s_lreader).getD 1 (.Pass ⟨0, 0, 0, 0⟩)))) (fnScope s_lreader)
def spLReader (C : Addr) : PySem.W.Frag → Sp := fun K vs H Q _ => ∃ (q pm pd : Addr) (ms : List (List Nat)) (b sg : List Nat) (kvs : List (List Key × V)), vs = [.str (S sg), .ref q] ∧ Draft K H q pm pd ms b sg kvs ∧ Sg sg ∧
  ∀ (p : Addr) (H' : Hp), Same H H' → H p = none → Rdr C H' p sg ms b (tgD kvs) → Q (.ref p) H'
theorem ok_lreader {C : Addr} (T : BT mg) (CH : CR K C) (mgC : mg "Reader" = some (.ref C)) (c_Reader : Mak P w K mg base 5 "Reader" C (spInit C) []) {f : Addr} {fd : FuncData} (F : Def K mg "_law_reader" s_lreader f fd) (b : Binds K fd ["signs_here", "draft"] []) : Cal P w K mg base 7 "_law_reader" (spLReader C K) [] := by
  refine cal0 F b .nil sc_lreader (fun vs H Q E h => ?_) (fun cdv A outer s H vs Q E hr h => ?_)
  · obtain ⟨q, pm, pd, ms, b, sg, kvs, rfl, _⟩ := h; rfl
  · obtain ⟨q, pm, pd, ms, b, sg, kvs, rfl, d, hsg, k⟩ := h
    have hgd := d.good hsg
    have h8 := hgd.h8
    refine ⟨_, (pss_cons (ps_asg (pv 1) (tupK K 3 (pgs_cons (pg_name (i := 2) sc_lreader.nd rfl (.inl rfl)) (pgs_cons (pg_name (i := 3) sc_lreader.nd rfl (.inl rfl)) (pgs_cons (pg_name (i := 4) sc_lreader.nd rfl (.inr rfl)) pgs_nil)))))
      (pss_cons (ps_setLc (i := 5) (own := [("mark", 6)]) rfl sc_lreader.nd rfl rfl rfl (pi_tup (pv 2)) (blkOk_by (N := n_lreader) (sc := fnScope s_lreader) (by decide +kernel)) (fun _ _ _ _ _ => (pg_name (i := 6) sc_lreader.nd rfl (.inr rfl))) (fun _ _ _ _ _ => pts_nil) (fun _ _ _ _ _ => (pe_lc (own := [("sign", 7)]) rfl sc_lreader.nd (pi_str (pv 0)) (blkOk_by (N := n_lreader) (sc := ncs_lreader) (by decide +kernel)) (fun _ _ _ _ _ => (pg_name (i := 7) sc_lreader.nd rfl (.inl rfl))) (fun _ _ _ _ _ => pts_nil) (fun _ _ _ _ _ => (pe_dget (hu_of hr) (pv 4) (pe_tup (pa_cons (pv 6) (pa_cons (pv 7) pa_nil))) (fun _ _ => rfl))))))
      (pss_one (ps_ret (pe_mk c_Reader hr (by decide) (by rfl) (pa_cons (pv 0) (pa_cons (pe_callTy (listK K) (by rfl) T.m_list PyProof.Rows.boot_list (pa_cons (pv 2) pa_nil)) (pa_cons (pv 3) (pa_cons (pv 5) pa_nil))))))
      ))), ?_⟩
    have hs3 := hsg.2.2.1
    refine ⟨_, rfl, q, _, rfl, .inl (.inl d.top), rfl, _, _, rfl, _, _, rfl, _, _, rfl, rfl, ?_⟩
    refine ⟨_, rfl, pm, rfl, ⟨_, SqT.of d.marks⟩, fun D hD => ?_⟩
    refine lc_keepH keep_same (walk_tup (K := K) (a := pm) (xs := txs ms)) hD (by rw [txs_len]; exact small1000 (by omega)) (fun j y H => ∃ p, y = .ref p ∧ p ≠ D ∧ ∀ mm, ms[j]? = some mm → H p = some (.lst (txs (sg.map (tgD kvs mm))))) (fun H r => SqT.of (r _ _ d.marks))
      (fun _ _ _ _ _ r1 ⟨p, e, n, h⟩ => ⟨p, e, n, fun mm hm => r1 _ _ (h mm hm)⟩) (fun _ _ _ _ _ _ _ ⟨p, e, n, h⟩ => ⟨p, e, n, fun mm hm => by rw [upd_ne n]; exact h mm hm⟩) (fun i x H2 H2' acc R hi r2 hDa hy hR => ?_) (fun ys H2 hly hg r2 hDs => ?_)
    · obtain ⟨rfl, e⟩ := hy
      obtain ⟨mm, em, rfl⟩ := txs_get e
      have hmem := List.mem_of_getElem? em
      have d2 := d.same r2
      refine ⟨rfl, ?_⟩
      refine ⟨_, rfl, S sg, rfl, fun D2 hD2 => lc_keep keep_same walk_str hD2 (by show sg.length < sizeLine; exact small1000 (by omega)) (fun j y => ∀ c, sg[j]? = some c → y = .str (S (tgD kvs mm c))) (fun _ _ => trivial) (fun j z H3 H4 R2 hj r3 hy hR2 => ?_) (fun zs H3 hlz hgz r3 hDz => ?_)⟩
      · obtain ⟨rfl, c, hc, rfl⟩ := hy
        have hc' : sg[j]? = some c := by simpa [S] using hc
        have d3 := d2.same r3
        refine ⟨rfl, ?_⟩
        refine ⟨_, rfl, _, rfl, _, rfl, (by show 2 ≤ sizeLine; decide), fun t ht => ?_⟩
        have hv := (d3.full.at_ hmem (List.mem_of_getElem? hc')).1
        refine ⟨pd, _, rfl, .inr ⟨_, ky mm c, t, .inl ((sm_new ht) _ _ d3.goes), rfl, by rw [upd_same]; rfl, hv.symm⟩, ?_⟩
        exact hR2 _ _ (sm_new ht) fun c' h => by rw [Option.some.inj (hc'.symm.trans h)]
      · have ez : zs = txs (sg.map (tgD kvs mm)) := by
          unfold txs; rw [List.map_map]
          exact list_map hlz fun j y c e1 e2 => hgz j y e1 c e2
        subst ez
        have nD : D2 ≠ D := fun e => by rw [e, hDa] at hD2; cases hD2
        exact hR _ _ r3 ⟨D2, rfl, nD, fun m2 h2 => by rw [em] at h2; cases h2; exact hDz⟩
    rw [txs_len] at hly
    obtain ⟨sa, hsa⟩ := fun_of (γ := Addr) hgd.hnd (P := fun j mm t => ys[j]? = some (V.ref t) ∧ H2 t = some (.lst (txs (sg.map (tgD kvs mm))))) fun j mm hj => by
      have hjl : j < ys.length := by rw [hly]; exact (List.getElem?_eq_some_iff.mp hj).1
      obtain ⟨t, e, _, h⟩ := hg j _ (List.getElem?_eq_getElem hjl)
      exact ⟨t, by rw [List.getElem?_eq_getElem hjl, e], h mm hj⟩
    have eys : ys = ms.map fun x => V.ref (sa x) := list_map hly fun j y x e1 e2 => by have := (hsa j x e2).1; rw [e1] at this; exact Option.some.inj this
    subst eys
    have hsa2 : ∀ x ∈ ms, H2 (sa x) = some (.lst (txs (sg.map (tgD kvs x)))) := fun x hx => by obtain ⟨j, hj⟩ := List.getElem?_of_mem hx; exact (hsa j x hj).2
    have d2 := d.same r2
    refine ⟨_, rfl, _, rfl, pm, _, rfl, .inr (SqT.of d2.marks), fun l hl => ?_⟩
    have s3 : Same H2 (upd H2 l (.lst (txs ms))) := sm_new hl
    have hl3 : (upd H2 l (.lst (txs ms))) l = some (.lst (txs ms)) := upd_same
    generalize upd H2 l (.lst (txs ms)) = H3 at s3 hl3
    refine ⟨_, rfl, _, rfl, fun p dx hp hdx hne => ?_⟩
    have hpx : ∀ b o, H3 b = some o → b ≠ p ∧ b ≠ dx := fun b o e => ⟨fun z => (by rw [← z, e] at hp; cases hp), fun z => (by rw [← z, e] at hdx; cases hdx)⟩
    have kp : ∀ b o, H3 b = some o → (upd (upd H3 dx (.own p)) p (.ins C dx [])) b = some o := fun b o e => by rw [upd_ne (hpx b o e).1, upd_ne (hpx b o e).2]; exact e
    refine ⟨p, dx, l, D, true, true, true, sg, ms, b, tgD kvs, sa, rfl, upd_same, kp _ _ hl3, kp _ _ (s3 _ _ hDs), fun x hx => kp _ _ (s3 _ _ (hsa2 x hx)), hgd, fun H' hk hr => ⟨rfl, k p H' (fun b o e => ?_) ?_ hr⟩⟩
    · have e2 := s3 _ _ (r2 _ _ e)
      exact hk b o (hpx b o e2).1 (kp b o e2)
    · cases e : H p with
      | none => rfl
      | some o => exact absurd rfl (hpx p o (s3 _ _ (r2 _ _ e))).1
abbrev s_leads : Stmt := top 42
abbrev n_leads : List Str := ["draft", "mark", "line", "here", "sign"]
theorem sc_leads : FnScope n_leads ["draft", "mark", "line"] (fnScope s_leads) := fnScope_by (by decide +kernel)
def spLeads : PySem.W.Frag → Sp := fun K vs H Q _ => ∃ (q pm pd : Addr) (ms : List (List Nat)) (b sg : List Nat) (kvs : List (List Key × V)) (m l : List Nat), vs = [.ref q, .str (S m), .str (S l)] ∧ Draft K H q pm pd ms b sg kvs ∧ m ∈ ms ∧ Ov sg l ∧
  ∀ H', Same H H' → Q (.str (S (ledTo (tgD kvs) m l))) H'
theorem take_more' {l : List Nat} {i c : Nat} (h : l[i]? = some c) : l.take (i + 1) = l.take i ++ [c] := take_more h
theorem ok_leads (T : BT mg) {f : Addr} {fd : FuncData} (F : Def K mg "_law_leads" s_leads f fd) (b : Binds K fd ["draft", "mark", "line"] []) : Cal P w K mg base 1 "_law_leads" (spLeads K) [] := by
  refine cal0 F b .nil sc_leads (fun vs H Q E h => ?_) (fun cdv A outer s H vs Q E hr h => ?_)
  · obtain ⟨q, pm, pd, ms, b, sg, kvs, m, l, rfl, _⟩ := h; rfl
  · obtain ⟨q, pm, pd, ms, b, sg, kvs, m, l, rfl, d, hm, ho, k⟩ := h
    refine ⟨_, (pss_cons (ps_set (i := 3) sc_leads.nd rfl (.inl rfl) (pv 1))
      (pss_cons (ps_for PassesOwn.never rfl (pi_str (pv 2)) (pg_name (i := 4) sc_leads.nd rfl (.inl rfl)) 
        (pss_one (ps_set (i := 3) sc_leads.nd rfl (.inl rfl) (pe_dget (hu_of hr) (pe_ix (ixt K) (pv 0) pe_int (fun _ _ => rfl)) (pe_tup (pa_cons (pv 3) (pa_cons (pv 4) pa_nil))) (fun _ _ => rfl)))
        ))
      (pss_one (ps_ret (pv 3))
      ))), ?_⟩
    have htg : ∀ m ∈ ms, ∀ c ∈ sg, tgD kvs m c ∈ ms := fun m hm c hc => (d.full.at_ hm hc).2
    refine ⟨_, rfl, _, rfl, _, rfl, for_it walk_str (fun i σ H' => ∃ s4 : Option V, σ = [some (.ref q), some (.str (S m)), some (.str (S l)), some (.str (S (ledTo (tgD kvs) m (l.take i)))), s4] ∧ Same H H') ⟨none, rfl, Same.refl H⟩ (fun _ _ _ _ _ => trivial) ?_ ?_⟩
    · rintro i y σ H2 H2' hi ⟨s4, rfl, s2⟩ ⟨rfl, c, hc, rfl⟩
      have hc' : l[i]? = some c := by simpa [S] using hc
      have hmi : ledTo (tgD kvs) m (l.take i) ∈ ms := led_in htg (fun d hd => ho d (List.mem_of_mem_take hd)) hm
      have hcs := ho c (List.mem_of_getElem? hc')
      have d2 := d.same s2
      refine ⟨_, rfl, q, _, 2, _, rfl, rfl, SqT.of d2.top, rfl, ?_⟩
      refine ⟨_, rfl, _, rfl, (by show 2 ≤ sizeLine; decide), fun t ht => ?_⟩
      have st : Same H2' (upd H2' t (.tup [.str (S (ledTo (tgD kvs) m (l.take i))), .str (S [c])])) := sm_new ht
      have hv := (d2.full.at_ hmi hcs).1
      have e1 : ledTo (tgD kvs) m (l.take (i + 1)) = tgD kvs (ledTo (tgD kvs) m (l.take i)) c := by
        rw [take_more hc']; unfold ledTo; rw [List.foldl_append]; rfl
      refine ⟨pd, _, rfl, .inr ⟨_, ky (ledTo (tgD kvs) m (l.take i)) c, t, .inl (st _ _ d2.goes), rfl, by rw [upd_same]; rfl, hv.symm⟩, ?_⟩
      exact ⟨_, by rw [e1]; rfl, s2.trans st⟩
    · rintro σ H2 ⟨s4, rfl, s2⟩
      refine ⟨_, rfl, ?_⟩
      have e : l.take (S l).cps.size = l := by rw [show (S l).cps.size = l.length by simp [S], List.take_length]
      show Q (V.str (S (ledTo (tgD kvs) m (List.take (S l).cps.size l)))) _
      rw [e]
      exact k _ s2
abbrev s_deed : Stmt := top 43
abbrev n_deed : List Str := ["draft", "line", "mark"]
theorem sc_deed : FnScope n_deed ["draft", "line"] (fnScope s_deed) := fnScope_by (by decide +kernel)
def deedD (kvs : List (List Key × V)) (ms : List (List Nat)) (l : List Nat) : List (List Nat) := ms.map fun m => ledTo (tgD kvs) m l
def spDeed : PySem.W.Frag → Sp := fun K vs H Q _ => ∃ (q pm pd : Addr) (ms : List (List Nat)) (b sg : List Nat) (kvs : List (List Key × V)) (l : List Nat), vs = [.ref q, .str (S l)] ∧ Draft K H q pm pd ms b sg kvs ∧ Ov sg l ∧
  ∀ (t : Addr) (H' : Hp), Same H H' → H t = none → H' t = some (.tup (txs (deedD kvs ms l))) → Q (.ref t) H'
theorem ok_deed (T : BT mg) (c_leads : Cal P w K mg base 1 "_law_leads" (spLeads K) []) {f : Addr} {fd : FuncData} (F : Def K mg "_law_deed" s_deed f fd) (b : Binds K fd ["draft", "line"] []) : Cal P w K mg base 2 "_law_deed" (spDeed K) [] := by
  refine cal0 F b .nil sc_deed (fun vs H Q E h => ?_) (fun cdv A outer s H vs Q E hr h => ?_)
  · obtain ⟨q, pm, pd, ms, b, sg, kvs, l, rfl, _⟩ := h; rfl
  · obtain ⟨q, pm, pd, ms, b, sg, kvs, l, rfl, d, ho, k⟩ := h
    refine ⟨_, (pss_one (ps_ret (pe_callTy (tupleK K) (by rfl) T.m_tuple PyProof.Rows.boot_tuple (pa_cons (pe_lc (own := [("mark", 2)]) rfl sc_deed.nd (pi_tup (pe_ix (ixt K) (pv 0) pe_int (fun _ _ => rfl))) (blkOk_by (N := n_deed) (sc := fnScope s_deed) (by decide +kernel)) (fun _ _ _ _ _ => (pg_name (i := 2) sc_deed.nd rfl (.inl rfl))) (fun _ _ _ _ _ => pts_nil) (fun _ _ _ _ _ => (pe_c c_leads hr (by first | decide | omega) (by rfl) (pa_cons (pv 0) (pa_cons (pv 2) (pa_cons (pv 1) pa_nil)))))) pa_nil)))
      ), ?_⟩
    have h5 := names_sub d.nd d.nm
    refine ⟨_, rfl, q, _, 0, _, rfl, rfl, SqT.of d.top, rfl, pm, rfl, ⟨_, SqT.of d.marks⟩, fun D hD => ?_⟩
    refine lc_keep keep_same (walk_tup (K := K) (a := pm) (xs := txs ms)) hD (by rw [txs_len]; exact small1000 (by omega)) (fun j y => ∀ mm, ms[j]? = some mm → y = .str (S (ledTo (tgD kvs) mm l))) (fun H r => SqT.of (r _ _ d.marks)) (fun i x H2 H2' R hi r hy hR => ?_) (fun ys H2 hly hg r2 hDs => ?_)
    · obtain ⟨rfl, e⟩ := hy
      obtain ⟨mm, em, rfl⟩ := txs_get e
      refine ⟨rfl, ?_⟩
      exact ⟨_, rfl, _, rfl, _, rfl, q, pm, pd, ms, b, sg, kvs, mm, l, rfl, d.same r, List.mem_of_getElem? em, ho, fun H3 s3 => hR _ _ s3 fun m2 h2 => by rw [em] at h2; cases h2; rfl⟩
    · have ey : ys = txs (deedD kvs ms l) := txs_of hly fun j y e mm em => hg j y e mm em
      subst ey
      exact nil1 ⟨D, _, rfl, .inl ⟨SqL.of hDs, fun t ht => k t _ (r2.trans (sm_new ht)) (r2.free ht) upd_same⟩⟩
end
end Toy
set_option maxHeartbeats 2000000
namespace Toy
open PySem L2 C8 SX LX
section
variable {P : Program} {w : World} {K : PySem.W.Frag} {mg : Str → Option Value} {base : Heap}
def actsW (sg : List Nat) (ms : List (List Nat)) (tg : List Nat → Nat → List Nat) : WT := walkT (leadN sg ms tg) sg (List.range ms.length)
def rowsT (L : WT) : List (List Nat) := L.map (·.2)
theorem rowsT_get {L : WT} {i : Nat} {p : List Nat × List Nat} (h : L[i]? = some p) : (txs (rowsT L))[i]? = some (.str (S p.2)) := by
  unfold txs rowsT; rw [List.getElem?_map, List.getElem?_map, h]; rfl
theorem kN_deed {sg : List Nat} {ms : List (List Nat)} {kvs : List (List Key × V)} (htg : ∀ m ∈ ms, ∀ c ∈ sg, tgD kvs m c ∈ ms) {l : List Nat} (ho : Ov sg l) : (kN ms (deedN ms (tgD kvs) l)).map kV = txs (deedD kvs ms l) := by
  rw [kN_txs, deed_names htg ho]; rfl
theorem range_ok {n : Nat} : Tn n (List.range n) := ⟨List.length_range, fun x hx => List.mem_range.mp hx⟩
theorem ov_app {sg l : List Nat} {c : Nat} (h : Ov sg l) (hc : c ∈ sg) : Ov sg (l ++ [c]) := fun d hd => by
  rcases List.mem_append.mp hd with q | q
  · exact h d q
  · rw [List.mem_singleton.mp q]; exact hc
abbrev s_deeds : Stmt := top 45
abbrev n_deeds : List Str := ["draft", "signs_here", "found", "rows", "turn", "sign", "line", "deed"]
theorem sc_deeds : FnScope n_deeds ["draft", "signs_here"] (fnScope s_deeds) := fnScope_by (by decide +kernel)
def spDeeds : PySem.W.Frag → Sp := fun K vs H Q _ => ∃ (q pm pd : Addr) (ms : List (List Nat)) (b sg : List Nat) (kvs : List (List Key × V)), vs = [.ref q, .str (S sg)] ∧ Draft K H q pm pd ms b sg kvs ∧ Sg sg ∧ ms.length ≤ 4 ∧
  ∀ (p : Addr) (H' : Hp), Same H H' → H p = none → H' p = some (.dT (tK (kN ms) (actsW sg ms (tgD kvs)))) → Q (.ref p) H'
theorem ok_deeds (T : BT mg) (c_deed : Cal P w K mg base 2 "_law_deed" (spDeed K) []) {f : Addr} {fd : FuncData} (F : Def K mg "_law_deeds" s_deeds f fd) (b : Binds K fd ["draft", "signs_here"] []) : Cal P w K mg base 3 "_law_deeds" (spDeeds K) [] := by
  refine cal0 F b .nil sc_deeds (fun vs H Q E h => ?_) (fun cdv A outer s H vs Q E hr h => ?_)
  · obtain ⟨q, pm, pd, ms, b, sg, kvs, rfl, _⟩ := h; rfl
  · obtain ⟨q, pm, pd, ms, b, sg, kvs, rfl, dr, hsg, h4, k⟩ := h
    refine ⟨_, (pss_cons (ps_par (i := 2) (j := 3) rfl sc_deeds.nd rfl rfl (by decide) rfl rfl (pa_cons (pe_disp1T (hu_of hr) (pe_ix (ixt K) (pv 0) pe_int (fun _ _ => rfl)) pe_str) (pa_cons (pe_lst (pa_cons pe_str pa_nil)) pa_nil)) rfl)
      (pss_cons (ps_for PassesOwn.never rfl (pi_range1 (by rfl) T.m_range (pa_cons pe_int pa_nil)) (pg_name (i := 4) sc_deeds.nd rfl (.inl rfl)) 
        (pss_cons (ps_if (pt_cmpR op_eq (pv 4) (pe_callB (lenK K) (by rfl) T.m_len PySem.boot_len (pa_cons (pv 3) pa_nil)) (nomark _)) 
          (pss_one ps_break
          )
         pss_nil)
        (pss_one (ps_for PassesOwn.never rfl (pi_str (pv 1)) (pg_name (i := 5) sc_deeds.nd rfl (.inl rfl)) 
          (pss_cons (ps_set (i := 6) sc_deeds.nd rfl (.inl rfl) (pe_op op_add_str (pe_ix (ixl K) (pv 3) (pv 4) (fun _ _ => rfl)) (pv 5)))
          (pss_cons (ps_set (i := 7) sc_deeds.nd rfl (.inl rfl) (pe_c c_deed hr (by first | decide | omega) (by rfl) (pa_cons (pv 0) (pa_cons (pv 6) pa_nil))))
          (pss_one (ps_if (pt_cmp (pc_dnotin (hu_of hr) (pv 7) (pv 2))) 
            (pss_cons (ps_dput (hu_of hr) (pv 2) (pv 7) (pv 6) rfl)
            (pss_one (ps_expr (pe_bm PySem.F.plainAttrs_list PySem.F.slot_list_append PySem.F.type_list_append mt_append (pv 3) (pa_cons (pv 6) pa_nil)))
            ))
           pss_nil)
          ))))
        )))
      (pss_one (ps_ret (pv 2))
      ))), ?_⟩
    have htg : ∀ m ∈ ms, ∀ c ∈ sg, tgD kvs m c ∈ ms := fun m hm c hc => (dr.full.at_ hm hc).2
    have hlead := leadN_ok htg rfl
    have hs3 := hsg.2.2.1
    have kinj : ∀ {L : WT} {f : List Nat}, TOk ms.length L → Tn ms.length f → ∀ p ∈ L, kN ms p.1 = kN ms f → p.1 = f := fun hL hf p hp e => kN_inj dr.nd (hL.mem p hp).2 hf.2 e
    have e0 : (kN ms (List.range ms.length)).map kV = txs ms := by
      rw [kN_txs, ← deedN_nil (tg := tgD kvs) dr.nd, deed_names htg (l := []) (fun _ h => nomatch h)]
      show txs (ms.map fun m => m) = _
      rw [List.map_id']
    refine fun d hd => ⟨_, rfl, q, _, 0, _, rfl, rfl, SqT.of (by rw [upd_ne (ne_of_none dr.top hd)]; exact dr.top), rfl, pm, kN ms (List.range ms.length), rfl, by rw [upd_ne (ne_of_none dr.marks hd), e0]; exact dr.marks, upd_same, ?_⟩
    refine ⟨by show 1 ≤ sizeLine; decide, fun p hp => ?_⟩
    have hpd : p ≠ d := fun e => by rw [e, upd_same] at hp; cases hp
    have hp0 : H p = none := by rw [upd_ne hpd, upd_ne hpd] at hp; exact hp
    generalize hH1 : upd (upd (upd H d (.dT [])) d (.dT [(kN ms (List.range ms.length), V.str (Str.ofString ""))])) p (.lst [V.str (Str.ofString "")]) = H1
    have s1 : Same H H1 := by rw [← hH1]; exact sm_put (sm_put (sm_put (Same.refl H) hd) hd) hp0
    have hp1 : H1 p = some (.lst (txs (rowsT [(List.range ms.length, [])]))) := by rw [← hH1, upd_same, s_nil]; rfl
    have hd1 : H1 d = some (.dT (tK (kN ms) [(List.range ms.length, [])])) := by rw [← hH1, upd_ne hpd.symm, upd_same, s_nil]; rfl
    clear hH1 hp
    have sg1000 : sg.length ≤ 1000 := by omega
    refine ⟨_, _, rfl, 300, rfl, by decide, by decide, for_it (walk_range (lo := 0)) (fun i σ H' => ∃ (L : WT) (s4 s5 s6 s7 : Option V), σ = [some (.ref q), some (.str (S sg)), some (.ref d), some (.ref p), s4, s5, s6, s7] ∧
      Same H H' ∧ H' p = some (.lst (txs (rowsT L))) ∧ H' d = some (.dT (tK (kN ms) L)) ∧ TOk ms.length L ∧ DOk sg ms (tgD kvs) L ∧ i ≤ L.length ∧ outT (leadN sg ms (tgD kvs)) sg (257 - i) i L = actsW sg ms (tgD kvs))
      ⟨[(List.range ms.length, [])], _, _, _, _, rfl, s1, hp1, hd1, TOk.one range_ok, fun q hq => by rw [List.mem_singleton.mp hq]; exact ⟨(deedN_nil dr.nd).symm, fun _ h => nomatch h⟩, Nat.zero_le _, rfl⟩ (fun _ _ _ _ _ => trivial) ?_ ?_⟩
    · rintro i x σ H2 H2' hi ⟨L, s4, s5, s6, s7, rfl, s2, hp2, hd2, hT, hD, hiL, hO⟩ ⟨rfl, rfl⟩
      have hL256 := hT.len h4
      have hlr : (txs (rowsT L)).length = L.length := by rw [txs_len]; unfold rowsT; rw [List.length_map]
      refine ⟨_, rfl, _, rfl, p, _, rfl, .inl (SqL.of hp2), rfl, _, rfl, ?_⟩
      rw [hlr]
      refine ite2 (fun hc => ?_) (fun hc => ?_)
      · have hiL2 : i = L.length := by
          have hc : V.int (0 + (i : Nat)) = V.int (L.length : Nat) := of_decide_eq_true hc
          have := V.int.inj hc; omega
        rw [outT_none (by omega)] at hO
        refine ⟨_, rfl, k d _ s2 hd ?_⟩
        rw [← hO]; exact hd2
      · have hiL2 : i < L.length := by
          rcases Nat.lt_or_ge i L.length with h | h
          · exact h
          · exact absurd (decide_eq_true (congrArg V.int (show (0 : Int) + (i : Nat) = (L.length : Nat) by omega))) hc
        obtain ⟨⟨t, r⟩, htr⟩ : ∃ q, L[i]? = some q := ⟨_, List.getElem?_eq_getElem hiL2⟩
        have hfuel : 257 - i = (257 - (i + 1)) + 1 := by omega
        rw [hfuel, outT_some htr] at hO
        have htd : t = deedN ms (tgD kvs) r ∧ Ov sg r := hD _ (List.mem_of_getElem? htr)
        refine nxt ?_
        dsimp only
        refine ⟨_, rfl, S sg, rfl, for_it walk_str (fun j σ H' => ∃ (L' : WT) (s5 s6 s7 : Option V), σ = [some (.ref q), some (.str (S sg)), some (.ref d), some (.ref p), some (.int (0 + (i : Nat))), s5, s6, s7] ∧
          Same H H' ∧ H' p = some (.lst (txs (rowsT L'))) ∧ H' d = some (.dT (tK (kN ms) L')) ∧ TOk ms.length L' ∧ DOk sg ms (tgD kvs) L' ∧ i < L'.length ∧ L'[i]? = some (t, r) ∧ inT (leadN sg ms (tgD kvs)) t r j (sg.drop j) L' = inT (leadN sg ms (tgD kvs)) t r 0 sg L)
          ⟨L, _, _, _, rfl, s2, hp2, hd2, hT, hD, hiL2, htr, rfl⟩ (fun _ _ _ _ _ => trivial) ?_ ?_⟩
        · rintro j y σ H3 H3' hj ⟨L', s5, s6, s7, rfl, s3, hp3, hd3, hT3, hD3, hi3, htr3, hin⟩ ⟨rfl, c, hc', rfl⟩
          have hcj : sg[j]? = some c := by simpa [S] using hc'
          have hj3 : j < sg.length := (List.getElem?_eq_some_iff.mp hcj).1
          have hcs := List.mem_of_getElem? hcj
          have hL3 := hT3.len h4
          have hrl := hT3.rl _ (List.mem_of_getElem? htr3)
          have hrl : r.length < L'.length := hrl
          have hdrop : sg.drop j = c :: sg.drop (j + 1) := by
            rw [List.drop_eq_getElem_cons hj3]
            congr 1
            exact (List.getElem?_eq_some_iff.mp hcj).2
          refine ⟨_, rfl, _, rfl, p, txs (rowsT L'), _, .str (S r), rfl, rfl, SqL.of hp3, at_of (by omega) (rowsT_get htr3), _, rfl, S r, S [c], rfl, rfl, by rw [S_len, S_len]; exact sz (m := 1000) (by simp; omega) (by decide), ?_⟩
          rw [S_cat]
          have hov : Ov sg (r ++ [c]) := ov_app htd.2 hcs
          refine ⟨_, rfl, _, rfl, q, pm, pd, ms, b, sg, kvs, r ++ [c], rfl, dr.same s3, hov, fun u H4 s4 hu hu4 => ?_⟩
          have hstep : leadN sg ms (tgD kvs) t j = deedN ms (tgD kvs) (r ++ [c]) := by rw [htd.1]; exact deedN_step htg htd.2 hcj
          have hfT : Tn ms.length (deedN ms (tgD kvs) (r ++ [c])) := deedN_ok htg hov
          have hkf := kinj hT3 hfT
          have s34 := s3.trans s4
          have hp4 := s4 _ _ hp3
          have hd4 := s4 _ _ hd3
          have ek : H4 u = some (.tup ((kN ms (deedN ms (tgD kvs) (r ++ [c]))).map kV)) := by rw [kN_deed htg hov]; exact hu4
          refine ⟨_, rfl, _, rfl, d, valV (tK (kN ms) L') (kN ms (deedN ms (tgD kvs) (r ++ [c]))), rfl, .inr ⟨_, _, u, .inl hd4, rfl, ek, rfl⟩, _, rfl, ?_⟩
          generalize hg : deedN ms (tgD kvs) (r ++ [c]) = g at *
          by_cases hmem : g ∈ L'.map (·.1)
          · obtain ⟨⟨g', rf⟩, hm', rfl⟩ := List.mem_map.mp hmem
            rw [tK_some hkf hT3.nd hm']
            refine iteN rfl ?_
            refine nxt ?_
            dsimp only
            exact ⟨L', _, _, _, rfl, s34, hp4, hd4, hT3, hD3, hi3, htr3, by rw [← hin, hdrop, inT_in (by rw [hstep]; exact hmem)]⟩
          · rw [tK_none hkf hmem]
            refine iteB rfl ?_
            refine ⟨_, rfl, _, rfl, _, rfl, d, _, rfl, DPut.t (k := kN ms g) hd4 ek (by show (tK (kN ms) L').length < sizeLine; rw [tK_len]; exact small1000 (by omega)), ?_⟩
            rw [putK_tK hkf hmem]
            have s5' : Same H (upd H4 d (.dT (tK (kN ms) (L' ++ [(g, r ++ [c])])))) := sm_put s34 hd
            have hp5 : (upd H4 d (.dT (tK (kN ms) (L' ++ [(g, r ++ [c])])))) p = some (.lst (txs (rowsT L'))) := by rw [upd_ne hpd]; exact hp4
            have hlr3 : (txs (rowsT L')).length = L'.length := by rw [txs_len]; unfold rowsT; rw [List.length_map]
            refine ⟨_, rfl, .inl ⟨rfl, _, SqL.of hp5⟩, _, rfl, p, txs (rowsT L'), _, rfl, rfl, hp5, by rw [hlr3]; exact small1000 (by omega), ?_⟩
            have ev : txs (rowsT L') ++ [V.str (S (r ++ [c]))] = txs (rowsT (L' ++ [(g, r ++ [c])])) := by unfold txs rowsT; rw [List.map_append, List.map_append]; rfl
            rw [ev]
            refine ⟨L' ++ [(g, r ++ [c])], _, _, _, rfl, sm_put s5' hp0, upd_same, by rw [upd_ne hpd.symm, upd_same], hT3.put hfT hmem (by rw [List.length_append, List.length_singleton]; exact hrl), fun z hz => ?_, by rw [List.length_append]; omega, by rw [List.getElem?_append_left hi3]; exact htr3, ?_⟩
            · rcases List.mem_append.mp hz with z1 | z1
              · exact hD3 z z1
              · rw [List.mem_singleton.mp z1]; exact ⟨hg.symm, hov⟩
            · rw [← hin, hdrop, inT_new (by rw [hstep]; exact hmem), hstep]
        · rintro σ H3 ⟨L', s5, s6, s7, rfl, s3, hp3, hd3, hT3, hD3, hi3, htr3, hin⟩
          have hin : inT (leadN sg ms (tgD kvs)) t r sg.length (sg.drop sg.length) L' = inT (leadN sg ms (tgD kvs)) t r 0 sg L := hin
          rw [List.drop_length] at hin
          have hend : L' = inT (leadN sg ms (tgD kvs)) t r 0 sg L := hin
          refine ⟨L', _, _, _, _, rfl, s3, hp3, hd3, hT3, hD3, hi3, ?_⟩
          rw [hend]; exact hO
    · rintro σ H2 ⟨L, s4, s5, s6, s7, rfl, s2, hp2, hd2, hT, hD, hiL, hO⟩
      have := hT.len h4
      have hiL : 300 ≤ L.length := hiL
      omega
end
end Toy
set_option maxHeartbeats 2000000
namespace Toy
open PySem L2 C8 SX LX
theorem rgV_tI (n : Nat) : rgV 0 (n : Nat) = tI (List.range n) := by
  unfold rgV tI
  rw [show ((n : Int) - 0).toNat = n by omega]
  exact List.map_congr_left fun i _ => by rw [Int.zero_add]
theorem tI_len (t : List Nat) : (tI t).length = t.length := by unfold tI; rw [List.length_map]
theorem tI_get {t : List Nat} {i : Nat} {x : V} (h : (tI t)[i]? = some x) : ∃ y, t[i]? = some y ∧ x = .int (y : Nat) := by
  unfold tI at h
  rw [List.getElem?_map] at h
  cases e : t[i]? with
  | none => rw [e] at h; cases h
  | some q => rw [e] at h; exact ⟨q, rfl, (Option.some.inj h).symm⟩
theorem tI_of {t : List Nat} {f : Nat → Nat} {ys : List V} (hl : ys.length = (tI t).length) (h : ∀ (j : Nat) y, ys[j]? = some y → ∀ l, t[j]? = some l → y = .int (f l : Nat)) : ys = tI (t.map f) := by
  have e : tI (t.map f) = t.map fun l => V.int (f l : Nat) := by unfold tI; rw [List.map_map]; rfl
  rw [e]
  exact list_map (by rw [hl, tI_len]) fun j y l e1 e2 => h j y e1 l e2
theorem nm_of {ms : List (List Nat)} {t : List Nat} {ys : List V} (hl : ys.length = (tI t).length) (h : ∀ (j : Nat) y, ys[j]? = some y → ∀ l, t[j]? = some l → y = .str (S (ms.getD l []))) : ys = txs (nmT ms t) := by
  have e : txs (nmT ms t) = t.map fun l => V.str (S (ms.getD l [])) := by unfold txs nmT; rw [List.map_map]; rfl
  rw [e]
  exact list_map (by rw [hl, tI_len]) fun j y l e1 e2 => h j y e1 l e2
section
variable {P : Program} {w : World} {K : PySem.W.Frag} {mg : Str → Option Value} {base : Heap}
theorem ColAt.at_ {H : Hp} {co : Addr} {sg : List Nat} {ms : List (List Nat)} {tg : List Nat → Nat → List Nat} {ca : Nat → Addr} (h : ColAt H co sg ms tg ca) {c : Nat} (hc : c ∈ sg) : DGet H co (.str (S [c])) (some (.ref (ca c))) :=
  .inl ⟨_, tk [c], .inl h.hco, rfl, (valV_map' (key := fun c => tk [c]) (f := fun c => V.ref (ca c)) (fun _ _ e => (List.cons.inj (tk_inj e)).1) hc).symm⟩
theorem rl_cols {sg : List Nat} {m : Addr} {f : List Nat} {st nu le co : Addr} : (rdF sg m f st nu le [("_columns", .ref co)]).lookup ("_columns" : Str) = some (.ref co) := by rfl
theorem col_one {ms : List (List Nat)} {tg : List Nat → Nat → List Nat} {c : Nat} : colI ms tg c = tI (deedN ms tg [c]) := by unfold colI tI deedN; rw [List.map_map]; rfl
theorem col_get {ms : List (List Nat)} {tg : List Nat → Nat → List Nat} {c x : Nat} (h : x < ms.length) : (colI ms tg c)[x]? = some (.int (ms.idxOf (tg (ms.getD x []) c) : Nat)) := by
  unfold colI
  rw [List.getElem?_map, List.getD_eq_getElem?_getD, List.getElem?_eq_getElem h]; rfl
abbrev s_m_nled : Stmt := inClass (top 19) 5
abbrev n_m_nled : List Str := ["self", "row", "numbers", "sign", "column", "number"]
theorem sc_m_nled : FnScope n_m_nled ["self", "row"] (fnScope s_m_nled) := fnScope_by (by decide +kernel)
def spMNled (C : Addr) : Sp := fun vs H Q _ => ∃ (a : Addr) (sg : List Nat) (ms : List (List Nat)) (f : List Nat) (tg : List Nat → Nat → List Nat) (row : List Nat), vs = [.ref a, .str (S row)] ∧ Rdr C H a sg ms f tg ∧ Good sg ms f tg ∧ Ov sg row ∧ row.length ≤ 1000 ∧
  ∀ (t : Addr) (H' : Hp), Same H H' → H' t = some (.tup (tI (deedN ms tg row))) → Q (.ref t) H'
theorem ok_mnled {C : Addr} (T : BT mg) (CH : CR K C) {f : Addr} {fd : FuncData} (me : Meth K C "numbers_led" f) (F : C8.Fun K "numbers_led" "Reader.numbers_led" s_m_nled f fd) (b : Binds K fd ["self", "row"] []) : Met P w K mg base 1 C "numbers_led" (spMNled C) [] := by
  refine met0 CH.cl me F b sc_m_nled (fun vs H Q E h => ?_) (fun cdv A outer s H vs Q E hr h => ?_)
  · obtain ⟨a, sg, ms, f, tg, row, rfl, _⟩ := h; rfl
  · obtain ⟨a, sg, ms, f, tg, row, rfl, hrd, hgd, ho, hl, k⟩ := h
    have h8 := hgd.h8
    refine ⟨_, (pss_cons (ps_if (pt_cmpR op_eq (pe_callB call_len_str (by rfl) T.m_len PySem.boot_len (pa_cons (pv 1) pa_nil)) pe_int (nomark _)) 
        (pss_one (ps_ret (pe_dget (hu_of hr) (fldK K (pv 0) rfl) (pv 1) (fun _ _ => rfl)))
        )
       pss_nil)
      (pss_cons (ps_set (i := 2) sc_m_nled.nd rfl (.inl rfl) (pe_listRg rfl (by rfl) T.m_list (prg_1 (by rfl) T.m_range (pe_callB (lenK K) (by rfl) T.m_len PySem.boot_len (pa_cons (fldK K (pv 0) rfl) pa_nil)))))
      (pss_cons (ps_for PassesOwn.never rfl (pi_str (pv 1)) (pg_name (i := 3) sc_m_nled.nd rfl (.inl rfl)) 
        (pss_cons (ps_set (i := 4) sc_m_nled.nd rfl (.inr rfl) (pe_dget (hu_of hr) (fldK K (pv 0) rfl) (pv 3) (fun _ _ => rfl)))
        (pss_one (ps_setLc (i := 2) (own := [("number", 5)]) rfl sc_m_nled.nd rfl rfl rfl (pi_list (pv 2)) (blkOk_by (N := n_m_nled) (sc := fnScope s_m_nled) (by decide +kernel)) (fun _ _ _ _ _ => (pg_name (i := 5) sc_m_nled.nd rfl (.inl rfl))) (fun _ _ _ _ _ => pts_nil) (fun _ _ _ _ _ => (pe_ix (ixt K) (pv 4) (pv 5) (fun _ _ => rfl))))
        )))
      (pss_one (ps_ret (pe_callTy (tupleK K) (by rfl) T.m_tuple PyProof.Rows.boot_tuple (pa_cons (pv 2) pa_nil)))
      )))), ?_⟩
    obtain ⟨dx, m, st, nu, le, sa, la, co, ca, r, hcol⟩ := id hrd
    refine ⟨_, rfl, S row, rfl, by rw [S_len]; exact le1000 hl, rfl, _, rfl, ?_⟩
    rw [S_len]
    refine ite2 (fun hc => ?_) (fun hc => ?_)
    · have hc1 : row.length = 1 := by
        have hc2 : V.int (row.length : Nat) = V.int 1 := of_decide_eq_true hc
        have := V.int.inj hc2; omega
      obtain ⟨c, rfl⟩ := List.length_eq_one_iff.mp hc1
      have hcs : c ∈ sg := ho c List.mem_cons_self
      refine ⟨_, rfl, a, C, dx, _, _, rfl, r.ha, CH.cl, CH.nC, rl_cols, ?_⟩
      refine ⟨_, rfl, _, _, rfl, hcol.at_ hcs, ?_⟩
      exact k _ _ (Same.refl H) (by rw [← col_one]; exact hcol.hca c hcs)
    · clear hc
      refine nxt ?_
      dsimp only
      refine ⟨_, rfl, a, C, dx, _, _, rfl, r.ha, CH.cl, CH.nM, rl_marks, m, txs ms, rfl, .inr (SqT.of r.hm), _, rfl, ?_⟩
      rw [txs_len]
      refine ⟨RgOk.of_le (by omega) (by omega) (by omega) (by omega), fun p hp => ?_⟩
      rw [rgV_tI]
      refine ⟨_, rfl, _, rfl, for_it walk_str (fun i σ H' => ∃ (p : Addr) (s3 s4 s5 : Option V), σ = [some (.ref a), some (.str (S row)), some (.ref p), s3, s4, s5] ∧ Same H H' ∧ H' p = some (.lst (tI (deedN ms tg (row.take i)))))
        ⟨p, _, _, _, rfl, sm_new hp, by rw [upd_same, List.take_zero, deedN_nil hgd.hnd]⟩ (fun _ _ _ _ _ => trivial) ?_ ?_⟩
      · rintro i y σ H2 H2' hi ⟨p2, s3, s4, s5, rfl, s2, hp2⟩ ⟨rfl, c, hc, rfl⟩
        have hc' : row[i]? = some c := by simpa [S] using hc
        have hcs := ho c (List.mem_of_getElem? hc')
        have hov : Ov sg (row.take i) := fun d hd => ho d (List.mem_of_mem_take hd)
        have hT := deedN_ok (l := row.take i) hgd.htg hov
        have r2 := r.same s2
        have hcol2 := hcol.same s2
        refine ⟨_, rfl, a, C, dx, _, _, rfl, r2.ha, CH.cl, CH.nC, rl_cols, ?_⟩
        refine ⟨_, rfl, _, _, rfl, hcol2.at_ hcs, ?_⟩
        refine ⟨_, rfl, p2, rfl, ⟨_, SqL.of hp2⟩, fun D hD => ?_⟩
        refine lc_keep keep_same (walk_list (K := K) (a := p2) (xs := tI (deedN ms tg (row.take i)))) hD (by rw [tI_len, hT.1]; exact small1000 (by omega)) (fun j y => ∀ n, (deedN ms tg (row.take i))[j]? = some n → y = .int (ms.idxOf (tg (ms.getD n []) c) : Nat)) (fun H r => SqL.of (r _ _ hp2)) (fun j x H3 H3' R hj r3 hy hR => ?_) (fun ys H3 hly hg r3 hDs => ?_)
        · obtain ⟨rfl, e⟩ := hy
          obtain ⟨n, hn, rfl⟩ := tI_get e
          have hnl := hT.2 n (List.mem_of_getElem? hn)
          refine ⟨rfl, ?_⟩
          refine ⟨_, rfl, _, rfl, ca c, colI ms tg c, _, .int (ms.idxOf (tg (ms.getD n []) c) : Nat), rfl, rfl, SqT.of (r3 _ _ (hcol2.hca c hcs)), atI_nat (col_get hnl), ?_⟩
          exact hR _ _ (Same.refl _) fun n2 h2 => by rw [hn] at h2; cases h2; rfl
        · have ey : ys = tI ((deedN ms tg (row.take i)).map fun n => ms.idxOf (tg (ms.getD n []) c)) := tI_of (f := fun n => ms.idxOf (tg (ms.getD n []) c)) hly fun j y e n en => hg j y e n en
          subst ey
          refine ⟨D, _, _, _, rfl, s2.trans r3, ?_⟩
          rw [take_more hc']
          obtain ⟨j, hj⟩ := List.mem_iff_getElem?.mp hcs
          rw [← deedN_step hgd.htg hov hj]
          unfold leadN
          rw [List.getD_eq_getElem?_getD, hj]
          exact hDs
      · rintro σ H2 ⟨p2, s3, s4, s5, rfl, s2, hp2⟩
        have e : row.take (S row).cps.size = row := by rw [show (S row).cps.size = row.length by simp [S], List.take_length]
        have hp2 : H2 p2 = some (.lst (tI (deedN ms tg (row.take (S row).cps.size)))) := hp2
        rw [e] at hp2
        exact ⟨_, rfl, p2, _, rfl, .inl ⟨SqL.of hp2, fun t ht => k t _ (s2.trans (sm_new ht)) upd_same⟩⟩
abbrev s_marksat : Stmt := top 33
abbrev n_marksat : List Str := ["reader", "numbers", "number"]
theorem sc_marksat : FnScope n_marksat ["reader", "numbers"] (fnScope s_marksat) := fnScope_by (by decide +kernel)
def spMarksAt (C : Addr) : Sp := fun vs H Q _ => ∃ (a t : Addr) (sg : List Nat) (ms : List (List Nat)) (f : List Nat) (tg : List Nat → Nat → List Nat) (ns : List Nat), vs = [.ref a, .ref t] ∧ Rdr C H a sg ms f tg ∧ H t = some (.tup (tI ns)) ∧ (∀ x ∈ ns, x < ms.length) ∧ ns.length ≤ 900 ∧
  ∀ (u : Addr) (H' : Hp), Same H H' → H u = none → H' u = some (.tup (txs (nmT ms ns))) → Q (.ref u) H'
theorem ok_marksat {C : Addr} (T : BT mg) (CH : CR K C) {f : Addr} {fd : FuncData} (F : Def K mg "_marks_at" s_marksat f fd) (b : Binds K fd ["reader", "numbers"] []) : Cal P w K mg base 1 "_marks_at" (spMarksAt C) [] := by
  refine cal0 F b .nil sc_marksat (fun vs H Q E h => ?_) (fun cdv A outer s H vs Q E hr h => ?_)
  · obtain ⟨a, t, sg, ms, f, tg, ns, rfl, _⟩ := h; rfl
  · obtain ⟨a, t, sg, ms, f, tg, ns, rfl, hrd, ht, hns, h9, k⟩ := h
    refine ⟨_, (pss_one (ps_ret (pe_callTy (tupleK K) (by rfl) T.m_tuple PyProof.Rows.boot_tuple (pa_cons (pe_lc (own := [("number", 2)]) rfl sc_marksat.nd (pi_tup (pv 1)) (blkOk_by (N := n_marksat) (sc := fnScope s_marksat) (by decide +kernel)) (fun _ _ _ _ _ => (pg_name (i := 2) sc_marksat.nd rfl (.inl rfl))) (fun _ _ _ _ _ => pts_nil) (fun _ _ _ _ _ => (pe_ix (ixt K) (fldK K (pv 0) rfl) (pv 2) (fun _ _ => rfl)))) pa_nil)))
      ), ?_⟩
    refine ⟨_, rfl, t, rfl, ⟨_, SqT.of ht⟩, fun D hD => ?_⟩
    refine lc_keep keep_same (walk_tup (K := K) (a := t) (xs := tI ns)) hD (by rw [tI_len]; exact small1000 (by omega)) (fun j y => ∀ n, ns[j]? = some n → y = .str (S (ms.getD n []))) (fun H r => SqT.of (r _ _ ht)) (fun i x H2 H2' R hi r hy hR => ?_) (fun ys H2 hly hg r2 hDs => ?_)
    · obtain ⟨rfl, e⟩ := hy
      obtain ⟨n, hn, rfl⟩ := tI_get e
      obtain ⟨dx, m, st, nu, le, sa, la, co, ca, r0, hcol⟩ := hrd.same r
      have hnl := hns n (List.mem_of_getElem? hn)
      refine ⟨rfl, ?_⟩
      refine ⟨_, rfl, a, C, dx, _, _, rfl, r0.ha, CH.cl, CH.nM, rl_marks, _, rfl, m, txs ms, _, .str (S (ms.getD n [])), rfl, rfl, SqT.of r0.hm, atI_nat (by unfold txs; rw [List.getElem?_map, List.getD_eq_getElem?_getD, List.getElem?_eq_getElem hnl]; rfl), ?_⟩
      exact hR _ _ (Same.refl _) fun n2 h2 => by rw [hn] at h2; cases h2; rfl
    · have ey : ys = txs (nmT ms ns) := nm_of hly fun j y e n en => hg j y e n en
      subst ey
      exact nil1 ⟨D, _, rfl, .inl ⟨SqL.of hDs, fun u hu => k u _ (r2.trans (sm_new hu)) (r2.free hu) upd_same⟩⟩
abbrev s_act : Stmt := top 28
abbrev n_act : List Str := ["reader", "row"]
theorem sc_act : FnScope n_act ["reader", "row"] (fnScope s_act) := fnScope_by (by decide +kernel)
def spAct (C : Addr) : Sp := fun vs H Q _ => ∃ (a : Addr) (sg : List Nat) (ms : List (List Nat)) (f : List Nat) (tg : List Nat → Nat → List Nat) (row : List Nat), vs = [.ref a, .str (S row)] ∧ Rdr C H a sg ms f tg ∧ Good sg ms f tg ∧ Ov sg row ∧ row.length ≤ 1000 ∧
  ∀ (u : Addr) (H' : Hp), Same H H' → H' u = some (.tup (txs (ms.map fun m => ledTo tg m row))) → Q (.ref u) H'
theorem ok_act {C : Addr} (T : BT mg) (CH : CR K C) (c_isrow : Cal P w K mg base 1 "is_row" spIsRow []) (c_m_nled : Met P w K mg base 1 C "numbers_led" (spMNled C) []) (c_marksat : Cal P w K mg base 1 "_marks_at" (spMarksAt C) []) {f : Addr} {fd : FuncData} (F : Def K mg "act" s_act f fd) (b : Binds K fd ["reader", "row"] []) : Cal P w K mg base 2 "act" (spAct C) [] := by
  refine cal0 F b .nil sc_act (fun vs H Q E h => ?_) (fun cdv A outer s H vs Q E hr h => ?_)
  · obtain ⟨a, sg, ms, f, tg, row, rfl, _⟩ := h; rfl
  · obtain ⟨a, sg, ms, f, tg, row, rfl, hrd, hgd, ho, hl, k⟩ := h
    have h8 := hgd.h8
    refine ⟨_, (pss_cons (ps_if (pt_not (pt_val (pe_c c_isrow hr (by first | decide | omega) (by rfl) (pa_cons (pv 1) (pa_cons (fldK K (pv 0) rfl) pa_nil))))) 
        (pss_one ps_never
        )
       pss_nil)
      (pss_one (ps_ret (pe_c c_marksat hr (by first | decide | omega) (by rfl) (pa_cons (pv 0) (pa_cons (pe_mt c_m_nled hr (by decide) (pv 0) (pa_cons (pv 1) pa_nil)) pa_nil))))
      )), ?_⟩
    obtain ⟨dx, m, st, nu, le, sa, la, co, ca, r, hcol⟩ := id hrd
    refine ⟨_, rfl, _, rfl, a, C, dx, _, _, rfl, r.ha, CH.cl, CH.nS, rl_signs, ?_⟩
    refine ⟨sg, row, rfl, hl, ?_⟩
    rw [decide_eq_true ho]
    refine ⟨true, rfl, iteN rfl ?_⟩
    refine ⟨_, rfl, _, rfl, a, dx, _, rfl, r.ha, rdr_no (.inr ⟨co, rfl⟩) (by decide +kernel), _, rfl, a, sg, ms, f, tg, row, rfl, hrd, hgd, ho, hl, fun t H1 s1 h1 => ?_⟩
    have hT := deedN_ok (l := row) hgd.htg ho
    refine ⟨a, t, sg, ms, f, tg, deedN ms tg row, rfl, hrd.same s1, h1, hT.2, by rw [hT.1]; omega, fun u H2 s2 hu h2 => ?_⟩
    exact k u H2 (s1.trans s2) (by rw [← deed_names hgd.htg ho]; exact h2)
abbrev s_fact : Stmt := top 29
abbrev n_fact : List Str := ["reader"]
theorem sc_fact : FnScope n_fact ["reader"] (fnScope s_fact) := fnScope_by (by decide +kernel)
def spFact (C : Addr) : Sp := fun vs H Q _ => ∃ (a : Addr) (sg : List Nat) (ms : List (List Nat)) (f : List Nat) (tg : List Nat → Nat → List Nat), vs = [.ref a] ∧ Rdr C H a sg ms f tg ∧ ∀ m, H m = some (.tup (txs ms)) → Q (.ref m) H
theorem ok_fact {C : Addr} (T : BT mg) (CH : CR K C) {f : Addr} {fd : FuncData} (F : Def K mg "first_act" s_fact f fd) (b : Binds K fd ["reader"] []) : Cal P w K mg base 1 "first_act" (spFact C) [] := by
  refine cal0 F b .nil sc_fact (fun vs H Q E h => ?_) (fun cdv A outer s H vs Q E hr h => ?_)
  · obtain ⟨a, sg, ms, f, tg, rfl, _⟩ := h; rfl
  · obtain ⟨a, sg, ms, f, tg, rfl, hrd, k⟩ := h
    refine ⟨_, (pss_one (ps_ret (fldK K (pv 0) rfl))
      ), ?_⟩
    obtain ⟨dx, m, st, nu, le, sa, la, co, ca, r, hcol⟩ := id hrd
    exact ⟨_, rfl, a, C, dx, _, _, rfl, r.ha, CH.cl, CH.nM, rl_marks, k m r.hm⟩
abbrev s_then : Stmt := top 30
abbrev n_then : List Str := ["reader", "one", "other", "mark"]
theorem sc_then : FnScope n_then ["reader", "one", "other"] (fnScope s_then) := fnScope_by (by decide +kernel)
def thenD (ms : List (List Nat)) (one other : List (List Nat)) : List (List Nat) := one.map fun m => other.getD (ms.idxOf m) []
def spThen (C : Addr) : Sp := fun vs H Q _ => ∃ (a p1 p2 : Addr) (sg : List Nat) (ms : List (List Nat)) (f : List Nat) (tg : List Nat → Nat → List Nat) (one other : List (List Nat)), vs = [.ref a, .ref p1, .ref p2] ∧ Rdr C H a sg ms f tg ∧ ms.Nodup ∧ H p1 = some (.tup (txs one)) ∧ H p2 = some (.tup (txs other)) ∧ (∀ m ∈ one, m ∈ ms) ∧ other.length = ms.length ∧ one.length ≤ 900 ∧
  ∀ (u : Addr) (H' : Hp), Same H H' → H' u = some (.tup (txs (thenD ms one other))) → Q (.ref u) H'
theorem ok_then {C : Addr} (T : BT mg) (CH : CR K C) (c_m_num : Met P w K mg base 1 C "number_of" (spMNum C) []) {f : Addr} {fd : FuncData} (F : Def K mg "act_then" s_then f fd) (b : Binds K fd ["reader", "one", "other"] []) : Cal P w K mg base 2 "act_then" (spThen C) [] := by
  refine cal0 F b .nil sc_then (fun vs H Q E h => ?_) (fun cdv A outer s H vs Q E hr h => ?_)
  · obtain ⟨a, p1, p2, sg, ms, f, tg, one, other, rfl, _⟩ := h; rfl
  · obtain ⟨a, p1, p2, sg, ms, f, tg, one, other, rfl, hrd, nd, h1, h2, hone, hlo, h9, k⟩ := h
    refine ⟨_, (pss_one (ps_ret (pe_callTy (tupleK K) (by rfl) T.m_tuple PyProof.Rows.boot_tuple (pa_cons (pe_lc (own := [("mark", 3)]) rfl sc_then.nd (pi_tup (pv 1)) (blkOk_by (N := n_then) (sc := fnScope s_then) (by decide +kernel)) (fun _ _ _ _ _ => (pg_name (i := 3) sc_then.nd rfl (.inl rfl))) (fun _ _ _ _ _ => pts_nil) (fun _ _ _ _ _ => (pe_ix (ixt K) (pv 2) (pe_mt c_m_num hr (by decide) (pv 0) (pa_cons (pv 3) pa_nil)) (fun _ _ => rfl)))) pa_nil)))
      ), ?_⟩
    refine ⟨_, rfl, p1, rfl, ⟨_, SqT.of h1⟩, fun D hD => ?_⟩
    refine lc_keep keep_same (walk_tup (K := K) (a := p1) (xs := txs one)) hD (by rw [txs_len]; exact small1000 (by omega)) (fun j y => ∀ n, one[j]? = some n → y = .str (S (other.getD (ms.idxOf n) []))) (fun H r => SqT.of (r _ _ h1)) (fun i x H2 H2' R hi r hy hR => ?_) (fun ys H2 hly hg r2 hDs => ?_)
    · obtain ⟨rfl, e⟩ := hy
      obtain ⟨n, hn, rfl⟩ := txs_get e
      have hm := hone n (List.mem_of_getElem? hn)
      have hil : ms.idxOf n < other.length := by rw [hlo]; exact List.idxOf_lt_length_of_mem hm
      refine ⟨rfl, ?_⟩
      obtain ⟨dx, m, st, nu, le, sa, la, co, ca, r0, hcol⟩ := hrd.same r
      refine ⟨_, rfl, _, rfl, a, dx, _, rfl, r0.ha, rdr_no (.inr ⟨co, rfl⟩) (by decide +kernel), _, rfl, a, sg, ms, f, tg, n, rfl, (hrd.same r).to0, nd, hm, ?_⟩
      refine ⟨p2, txs other, _, .str (S (other.getD (ms.idxOf n) [])), rfl, rfl, SqT.of (r _ _ h2), atI_nat (by unfold txs; rw [List.getElem?_map, List.getD_eq_getElem?_getD, List.getElem?_eq_getElem hil]; rfl), ?_⟩
      exact hR _ _ (Same.refl _) fun n2 h2 => by rw [hn] at h2; cases h2; rfl
    · have ey : ys = txs (thenD ms one other) := txs_of hly fun j y e n en => hg j y e n en
      subst ey
      exact nil1 ⟨D, _, rfl, .inl ⟨SqL.of hDs, fun u hu => k u _ (r2.trans (sm_new hu)) upd_same⟩⟩
end
end Toy
set_option maxHeartbeats 4000000
namespace Toy
open PySem L2 C8 SX LX
def AtT (H : Hp) (as : List Addr) (L : WT) : Prop := as.length = L.length ∧ ∀ (i : Nat) (a : Addr) (q : List Nat × List Nat), as[i]? = some a → L[i]? = some q → H a = some (.tup (tI q.1))
theorem AtT.same {H H' : Hp} {as : List Addr} {L : WT} (h : AtT H as L) (s : Same H H') : AtT H' as L := ⟨h.1, fun i a q e1 e2 => s _ _ (h.2 i a q e1 e2)⟩
theorem AtT.keep {H H' : Hp} {as : List Addr} {L : WT} (h : AtT H as L) (s : ∀ a o, H a = some o → (∀ ls, o ≠ .lst ls) → (∀ ks, o ≠ .dT ks) → H' a = some o) : AtT H' as L := ⟨h.1, fun i a q e1 e2 => s _ _ (h.2 i a q e1 e2) (fun _ z => by cases z) (fun _ z => by cases z)⟩
theorem AtT.put {H : Hp} {as : List Addr} {L : WT} (h : AtT H as L) {a : Addr} {f r : List Nat} (ha : H a = some (.tup (tI f))) : AtT H (as ++ [a]) (L ++ [(f, r)]) := by
  refine ⟨by rw [List.length_append, List.length_append, h.1]; rfl, fun i b q e1 e2 => ?_⟩
  rcases Nat.lt_or_ge i as.length with hi | hi
  · rw [List.getElem?_append_left hi] at e1
    rw [List.getElem?_append_left (by rw [← h.1]; exact hi)] at e2
    exact h.2 i b q e1 e2
  · rw [List.getElem?_append_right hi] at e1
    rw [List.getElem?_append_right (by rw [← h.1]; exact hi)] at e2
    have hi2 : i - as.length = 0 := by
      have := (List.getElem?_eq_some_iff.mp e1).1
      rw [List.length_singleton] at this; omega
    rw [hi2] at e1
    rw [show i - L.length = 0 by rw [← h.1]; exact hi2] at e2
    cases e1; cases e2
    exact ha
theorem AtT.get {H : Hp} {as : List Addr} {L : WT} (h : AtT H as L) {i : Nat} {q : List Nat × List Nat} (e : L[i]? = some q) : ∃ a, as[i]? = some a ∧ H a = some (.tup (tI q.1)) := by
  have hi : i < as.length := by rw [h.1]; exact (List.getElem?_eq_some_iff.mp e).1
  exact ⟨as[i], List.getElem?_eq_getElem hi, h.2 i _ q (List.getElem?_eq_getElem hi) e⟩
theorem refs_get {as : List Addr} {i : Nat} {a : Addr} (h : as[i]? = some a) : (as.map V.ref)[i]? = some (.ref a) := by rw [List.getElem?_map, h]; rfl
theorem kI_k {n : Nat} {L : WT} {f : List Nat} : ∀ p ∈ L, kI p.1 = kI f → p.1 = f := fun _ _ e => kI_inj e
theorem refs_of : ∀ {ys : List V}, (∀ (j : Nat) y, ys[j]? = some y → ∃ t, y = .ref t) → ∃ ps : List Addr, ys = ps.map V.ref
  | [], _ => ⟨[], rfl⟩
  | y :: ys, h => by
    obtain ⟨t, rfl⟩ := h 0 y rfl
    obtain ⟨ps, rfl⟩ := refs_of (ys := ys) fun j z e => h (j + 1) z e
    exact ⟨t :: ps, rfl⟩
theorem at_neg {xs : List V} {v : V} (h : 0 < xs.length) (e : xs[xs.length - 1]? = some v) : atI xs (-1) = some v := by
  have : ixN xs.length (-1) = some (xs.length - 1) := by
    unfold ixN
    rw [if_neg (by decide), if_pos (by omega)]
    congr 1; omega
  unfold atI
  rw [this]; exact e
theorem AtT.upd {H : Hp} {as : List Addr} {L : WT} (h : AtT H as L) {x : Addr} {o : HO} (hx : ∀ xs, H x ≠ some (.tup xs)) : AtT (L2.upd H x o) as L := ⟨h.1, fun i a q e1 e2 => by
  have := h.2 i a q e1 e2
  rw [upd_ne (fun z => by rw [z] at this; exact hx _ this)]; exact this⟩
section
variable {P : Program} {w : World} {K : PySem.W.Frag} {mg : Str → Option Value} {base : Heap}
abbrev s_until : Stmt := top 17
abbrev n_until : List Str := ["signs", "begin", "lead", "is_last", "things", "rows", "at", "number", "sign", "following", "thing"]
theorem sc_until : FnScope n_until ["signs", "begin", "lead", "is_last"] (fnScope s_until) := fnScope_by (by decide +kernel)
def spLT (n m : Nat) (lead : List Nat → Nat → List Nat) : Sp := fun vs H Q _ => ∃ (a : Addr) (t : List Nat) (i : Nat), vs = [.ref a, .int (i : Nat)] ∧ H a = some (.tup (tI t)) ∧ Tn n t ∧ i < m ∧ ∀ (u : Addr) (H' : Hp), Same H H' → H' u = some (.tup (tI (lead t i))) → Q (.ref u) H'
def spIT : Sp := fun vs H Q _ => ∃ a : Addr, vs = [.ref a] ∧ ∀ H', Same H H' → Q (.bl false) H'
def PairsAt (H : Hp) (ps : List Addr) (L : WT) : Prop := ps.length = L.length ∧ ∀ (i : Nat) (a : Addr) (q : List Nat × List Nat), ps[i]? = some a → L[i]? = some q → ∃ u, H a = some (.tup [.ref u, .str (S q.2)]) ∧ H u = some (.tup (tI q.1))
def spUntilT (n : Nat) (gl gi : Addr) (trl tri : Hp → Prop) (lead : List Nat → Nat → List Nat) (sg : List Nat) : Sp := fun vs H Q _ => ∃ (pb : Addr) (b : List Nat), vs = [.str (S sg), .ref pb, .ref gl, .ref gi] ∧ H pb = some (.tup (tI b)) ∧ Tn n b ∧ trl H ∧ tri H ∧
  ∀ (p : Addr) (ps : List Addr) (H' : Hp), Same H H' → H p = none → H' p = some (.lst (ps.map V.ref)) → PairsAt H' ps (walkT lead sg b) → Q (.ref p) H'
theorem ok_untilT {n : Nat} (hn : n ≤ 4) {kl : Nat} {gl gi : Addr} {trl tri : Hp → Prop} {lead : List Nat → Nat → List Nat} {sg : List Nat} (hl3 : sg.length ≤ 3) (T : BT mg) (c_lead : CV P w K mg base kl gl trl (spLT n sg.length lead)) (c_is_last : CV P w K mg base kl gi tri spIT)
    (stl : ∀ H H', Same H H' → trl H → trl H') (sti : ∀ H H', Same H H' → tri H → tri H') (hlead : ∀ t i, Tn n t → i < sg.length → Tn n (lead t i))
    {f : Addr} {fd : FuncData} (F : Def K mg "_walked_until" s_until f fd) (b : Binds K fd ["signs", "begin", "lead", "is_last"] []) : Cal P w K mg base (kl + 1) "_walked_until" (spUntilT n gl gi trl tri lead sg) [] := by
  refine cal0 F b .nil sc_until (fun vs H Q E h => ?_) (fun cdv A outer s H vs Q E hr h => ?_)
  · obtain ⟨pb, b, rfl, _⟩ := h; rfl
  · obtain ⟨pb, b, rfl, hb, hbn, htl, hti, k⟩ := h
    refine ⟨_, (pss_cons (ps_set (i := 4) sc_until.nd rfl (.inl rfl) (pe_lst (pa_cons (pv 1) pa_nil)))
      (pss_cons (ps_set (i := 5) sc_until.nd rfl (.inr rfl) (pe_disp1T (hu_of hr) (pv 1) pe_str))
      (pss_cons (ps_set (i := 6) sc_until.nd rfl (.inl rfl) pe_int)
      (pss_cons (ps_while PassesOwn.never (PW.pt (pw_and (pt_cmpR op_lt (pv 6) (pe_callB (lenK K) (by rfl) T.m_len PySem.boot_len (pa_cons (pv 4) pa_nil)) (nomark _)) (pw_and1 (pt_not (pt_val (pe_callV (i := 3) c_is_last hr (Nat.le_refl _) rfl (.inl rfl) (pa_cons (pe_ix (ixl K) (pv 4) (pe_un un_neg pe_int) (fun _ _ => rfl)) pa_nil))))))) 
        (pss_cons (ps_for PassesOwn.never rfl (pi_enumX (by rfl) T.m_enumerate (pa_cons (pv 0) pa_nil)) (tupK K 2 (pgs_cons (pg_name (i := 7) sc_until.nd rfl (.inl rfl)) (pgs_cons (pg_name (i := 8) sc_until.nd rfl (.inl rfl)) pgs_nil))) 
          (pss_cons (ps_set (i := 9) sc_until.nd rfl (.inl rfl) (pe_callV (i := 2) c_lead hr (Nat.le_refl _) rfl (.inl rfl) (pa_cons (pe_ix (ixl K) (pv 4) (pv 6) (fun _ _ => rfl)) (pa_cons (pv 7) pa_nil))))
          (pss_one (ps_if (pt_cmp (pc_dnotin (hu_of hr) (pv 9) (pv 5))) 
            (pss_cons (ps_dput (hu_of hr) (pv 5) (pv 9) (pe_op op_add_str (pe_dget (hu_of hr) (pv 5) (pe_ix (ixl K) (pv 4) (pv 6) (fun _ _ => rfl)) (fun _ _ => rfl)) (pv 8)) rfl)
            (pss_cons (ps_expr (pe_bm PySem.F.plainAttrs_list PySem.F.slot_list_append PySem.F.type_list_append mt_append (pv 4) (pa_cons (pv 9) pa_nil)))
            (pss_one (ps_if (pt_val (pe_callV (i := 3) c_is_last hr (Nat.le_refl _) rfl (.inl rfl) (pa_cons (pv 9) pa_nil))) 
              (pss_one ps_break
              )
             pss_nil)
            )))
           pss_nil)
          )))
        (pss_one (ps_aug (i := 6) sc_until.nd rfl (.inl rfl) pe_int ip_add)
        )))
      (pss_one (ps_ret (pe_lc (own := [("thing", 10)]) rfl sc_until.nd (pi_list (pv 4)) (blkOk_by (N := n_until) (sc := fnScope s_until) (by decide +kernel)) (fun _ _ _ _ _ => (pg_name (i := 10) sc_until.nd rfl (.inl rfl))) (fun _ _ _ _ _ => pts_nil) (fun _ _ _ _ _ => (pe_tup (pa_cons (pv 10) (pa_cons (pe_dget (hu_of hr) (pv 5) (pv 10) (fun _ _ => rfl)) pa_nil))))))
      ))))), ?_⟩
    refine ⟨_, rfl, (by show 1 ≤ sizeLine; decide), fun p hp => ?_⟩
    have hpb : pb ≠ p := ne_of_none hb hp
    refine fun d hd => ⟨_, rfl, pb, kI b, rfl, ?_, upd_same, ?_⟩
    · rw [kI_tI, upd_ne (fun e => by rw [← e, upd_ne hpb, hb] at hd; cases hd), upd_ne hpb]; exact hb
    have hpd : p ≠ d := fun e => by rw [← e, upd_same] at hd; cases hd
    have hd0 : H d = none := by rw [upd_ne hpd.symm] at hd; exact hd
    generalize hH1 : upd (upd (upd H p (.lst [.ref pb])) d (.dT [])) d (.dT [(kI b, V.str (Str.ofString ""))]) = H1
    have s1 : Same H H1 := by rw [← hH1]; exact sm_put (sm_put (sm_put (Same.refl H) hp) hd0) hd0
    have hp1 : H1 p = some (.lst (([pb] : List Addr).map V.ref)) := by rw [← hH1, upd_ne hpd, upd_ne hpd, upd_same]; rfl
    have hd1 : H1 d = some (.dT (tK kI [(b, [])])) := by rw [← hH1, upd_same, s_nil]; rfl
    have ha1 : AtT H1 [pb] [(b, [])] := ⟨rfl, fun i a q e1 e2 => by
      cases i with
      | zero => cases e1; cases e2; exact s1 _ _ hb
      | succ i => cases e1⟩
    clear hH1 hd
    have mk : ∀ {L : WT} {g : List Nat}, ∀ q ∈ L, kI q.1 = kI g → q.1 = g := fun _ _ e => kI_inj e
    refine ⟨fun m σ H' => ∃ (L : WT) (as : List Addr) (at_ : Nat) (s7 s8 s9 : Option V), m = 257 - at_ ∧ at_ ≤ 257 ∧ σ = [some (.str (S sg)), some (.ref pb), some (.ref gl), some (.ref gi), some (.ref p), some (.ref d), some (.int (at_ : Nat)), s7, s8, s9, none] ∧
      Same H H' ∧ H' p = some (.lst (as.map V.ref)) ∧ AtT H' as L ∧ H' d = some (.dT (tK kI L)) ∧ TOk n L ∧ 0 < L.length ∧ outT lead sg (257 - at_) at_ L = walkT lead sg b, ?_, ?_⟩
    · exact ⟨257, [(b, [])], [pb], 0, _, _, _, rfl, Nat.zero_le _, rfl, s1, hp1, ha1, hd1, TOk.one hbn, Nat.zero_lt_one, rfl⟩
    rintro m σ H2 ⟨L, as, at_, s7, s8, s9, rfl, hat, rfl, s2, hp2, ha2, hd2, hW, hL0, hO⟩
    have hLN := hW.len hn
    have hlen : (as.map V.ref).length = L.length := by rw [List.length_map, ha2.1]
    refine ⟨_, rfl, _, rfl, p, _, rfl, .inl (SqL.of hp2), _, _, rfl, rfl, _, rfl, ?_⟩
    rw [hlen]
    refine ite2 (fun hc => ?_) (fun hc => ?_)
    · have hal : at_ < L.length := by rw [decide_eq_true_eq] at hc; omega
      obtain ⟨⟨t, r⟩, htr⟩ : ∃ q, L[at_]? = some q := ⟨_, List.getElem?_eq_getElem hal⟩
      obtain ⟨ql, htl'⟩ : ∃ q, L[L.length - 1]? = some q := ⟨_, List.getElem?_eq_getElem (by omega)⟩
      obtain ⟨al, hal1, hal2⟩ := ha2.get htl'
      have hti2 := sti _ _ s2 hti
      refine ⟨rfl, hti2, ?_⟩
      refine ⟨_, rfl, _, rfl, p, as.map V.ref, -1, .ref al, rfl, rfl, SqL.of hp2, at_neg (by rw [hlen]; omega) (by rw [hlen]; exact refs_get hal1), ?_⟩
      refine ⟨hti2, al, rfl, fun H3 h3 => ?_⟩
      have s3 := s2.trans h3
      have hp3 := h3 _ _ hp2
      have hd3 := h3 _ _ hd2
      have ha3 := ha2.same h3
      refine ⟨_, rfl, ?_⟩
      obtain ⟨n', hn'⟩ : ∃ n', 257 - at_ = n' + 1 := ⟨256 - at_, by omega⟩
      refine iteB rfl ?_
      have hO' : outT lead sg (257 - (at_ + 1)) (at_ + 1) (inT lead t r 0 sg L) = walkT lead sg b := by
        rw [← hO, hn', show 257 - (at_ + 1) = n' by omega, outT_some htr]
      refine ⟨fun σ' H' => ∃ (L' : WT) (as : List Addr) (s7 s8 s9 : Option V), σ' = [some (.str (S sg)), some (.ref pb), some (.ref gl), some (.ref gi), some (.ref p), some (.ref d), some (.int ((at_ + 1 : Nat) : Int)), s7, s8, s9, none] ∧
        Same H H' ∧ H' p = some (.lst (as.map V.ref)) ∧ AtT H' as L' ∧ H' d = some (.dT (tK kI L')) ∧ TOk n L' ∧ 0 < L'.length ∧ outT lead sg (257 - (at_ + 1)) (at_ + 1) L' = walkT lead sg b,
        fun σ' H' ⟨L', as, s7, s8, s9, a1, a2, a3, a4, a5, a6, a7, a8⟩ => ⟨257 - (at_ + 1), by omega, L', as, at_ + 1, s7, s8, s9, rfl, by omega, a1, a2, a3, a4, a5, a6, a7, a8⟩, ?_⟩
      have htN : Tn n t := hW.mem _ (List.mem_of_getElem? htr)
      refine ⟨_, rfl, .str (S sg), .txt (S sg), rfl, rfl, trivial, for_it (walk_enumX (K := K) (S := .txt (S sg)) (xs := sg.map fun c => V.str (S [c]))) (fun i σ H' => ∃ (L' : WT) (as : List Addr) (s7 s8 s9 : Option V), σ = [some (.str (S sg)), some (.ref pb), some (.ref gl), some (.ref gi), some (.ref p), some (.ref d), some (.int (at_ : Nat)), s7, s8, s9, none] ∧
        Same H H' ∧ H' p = some (.lst (as.map V.ref)) ∧ AtT H' as L' ∧ H' d = some (.dT (tK kI L')) ∧ TOk n L' ∧ 0 < L'.length ∧ L'[at_]? = some (t, r) ∧ inT lead t r i (sg.drop i) L' = inT lead t r 0 sg L)
        ⟨L, as, _, _, _, rfl, s3, hp3, ha3, hd3, hW, hL0, htr, rfl⟩ (fun _ _ _ _ _ => by show (sg.map fun c => V.str (S [c])) = _; simp [S]) ?_ ?_⟩
      · rintro i x σ H4 H4' hi ⟨L', as, s7, s8, s9, rfl, s4, hp4, ha4, hd4, hW4, hL4, htr4, hinn⟩ ⟨T, x1, x2, rfl, hT, rfl, e1, e2⟩
        obtain rfl : V.int (i : Nat) = x1 := Option.some.inj e1
        have e2 : (sg.map fun c => V.str (S [c]))[i]? = some x2 := e2
        rw [List.getElem?_map] at e2
        rw [List.length_map] at hi
        have hci : sg[i]? = some sg[i] := List.getElem?_eq_getElem hi
        generalize hcc : sg[i] = c at hci
        rw [hci] at e2
        obtain rfl : V.str (S [c]) = x2 := Option.some.inj e2
        have hdrop : sg.drop i = c :: sg.drop (i + 1) := by rw [List.drop_eq_getElem_cons hi, hcc]
        have sT : Same H4 (upd H4 T (.tup [.int (i : Nat), .str (S [c])])) := sm_new hT
        refine ⟨T, _, rfl, .inl (.inl upd_same), rfl, _, _, rfl, _, _, rfl, rfl, ?_⟩
        generalize hH5 : upd H4 T (.tup [.int (i : Nat), .str (S [c])]) = H5 at sT
        clear hH5
        have s5 := s4.trans sT
        have hp5 := sT _ _ hp4
        have hd5 := sT _ _ hd4
        have ha5 := ha4.same sT
        obtain ⟨a5, ea5, ha5t⟩ := ha5.get htr4
        have htl5 := stl _ _ s5 htl
        refine ⟨rfl, htl5, ?_⟩
        refine ⟨_, rfl, _, rfl, p, as.map V.ref, at_, .ref a5, rfl, rfl, SqL.of hp5, at_of rfl (refs_get ea5), _, rfl, htl5, a5, t, i, rfl, ha5t, htN, hi, fun u H6 h6 hu6 => ?_⟩
        have s6 := s5.trans h6
        have hp6 := h6 _ _ hp5
        have hd6 := h6 _ _ hd5
        have ha6 := ha5.same h6
        have ha5t6 := h6 _ _ ha5t
        have hfN := hlead t i htN hi
        generalize hf : lead t i = f at hfN hu6
        have ek : H6 u = some (.tup ((kI f).map kV)) := by rw [kI_tI]; exact hu6
        refine ⟨_, rfl, _, rfl, d, valV (tK kI L') (kI f), rfl, .inr ⟨_, _, u, .inl hd6, rfl, ek, rfl⟩, _, rfl, ?_⟩
        by_cases hin : f ∈ L'.map (·.1)
        · obtain ⟨⟨f', rf⟩, hmem, rfl⟩ := List.mem_map.mp hin
          rw [tK_some mk hW4.nd hmem]
          refine iteN rfl ?_
          refine ⟨L', as, _, _, _, rfl, s6, hp6, ha6, hd6, hW4, hL4, htr4, ?_⟩
          rw [← hinn, hdrop, inT_in (by rw [hf]; exact hin)]
        · rw [tK_none mk hin]
          refine iteB rfl ?_
          have hrl := hW4.rl _ (List.mem_of_getElem? htr4)
          have hLN4 := hW4.len hn
          refine ⟨_, rfl, _, rfl, _, rfl, p, as.map V.ref, at_, .ref a5, rfl, rfl, SqL.of hp6, at_of rfl (refs_get ea5), d, .str (S r), rfl, .inr ⟨_, kI t, a5, .inl hd6, rfl, by rw [kI_tI]; exact ha5t6, (tK_some mk hW4.nd (List.mem_of_getElem? htr4)).symm⟩, ?_⟩
          have hr2 : r.length < L'.length := hrl
          refine ⟨_, rfl, S r, S [c], rfl, rfl, by rw [S_len, S_len]; exact sz (m := 1000) (by simp; omega) (by decide), ?_⟩
          refine ⟨_, rfl, _, rfl, d, _, rfl, DPut.t (k := kI f) hd6 ek (by show (tK kI L').length < sizeLine; rw [tK_len]; exact small1000 (by omega)), ?_⟩
          rw [S_cat, putK_tK mk hin]
          have s7' : Same H (upd H6 d (.dT (tK kI (L' ++ [(f, r ++ [c])])))) := sm_put s6 hd0
          have hp7 : (upd H6 d (.dT (tK kI (L' ++ [(f, r ++ [c])])))) p = some (.lst (as.map V.ref)) := by rw [upd_ne hpd]; exact hp6
          refine ⟨_, rfl, .inl ⟨rfl, _, SqL.of hp7⟩, _, rfl, p, as.map V.ref, _, rfl, rfl, hp7, by rw [List.length_map, ha6.1]; exact small1000 (by omega), ?_⟩
          have evV : as.map V.ref ++ [V.ref u] = (as ++ [u]).map V.ref := by rw [List.map_append]; rfl
          rw [evV]
          have hW5 : TOk n (L' ++ [(f, r ++ [c])]) := hW4.put hfN hin (by rw [List.length_append, List.length_singleton]; exact hr2)
          have htr5 : (L' ++ [(f, r ++ [c])])[at_]? = some (t, r) := by rw [List.getElem?_append_left (List.getElem?_eq_some_iff.mp htr4).1]; exact htr4
          have hL5p : 0 < (L' ++ [(f, r ++ [c])]).length := by rw [List.length_append]; exact Nat.lt_add_left _ Nat.zero_lt_one
          have s8' : Same H (upd (upd H6 d (.dT (tK kI (L' ++ [(f, r ++ [c])])))) p (.lst ((as ++ [u]).map V.ref))) := sm_put s7' hp
          have hp8 : (upd (upd H6 d (.dT (tK kI (L' ++ [(f, r ++ [c])])))) p (.lst ((as ++ [u]).map V.ref))) p = some (.lst ((as ++ [u]).map V.ref)) := upd_same
          have hd8 : (upd (upd H6 d (.dT (tK kI (L' ++ [(f, r ++ [c])])))) p (.lst ((as ++ [u]).map V.ref))) d = some (.dT (tK kI (L' ++ [(f, r ++ [c])]))) := by rw [upd_ne hpd.symm, upd_same]
          have ha8 : AtT (upd (upd H6 d (.dT (tK kI (L' ++ [(f, r ++ [c])])))) p (.lst ((as ++ [u]).map V.ref))) (as ++ [u]) (L' ++ [(f, r ++ [c])]) :=
            (((ha6.put (r := r ++ [c]) hu6).upd (fun _ z => by rw [hd6] at z; cases z)).upd (fun _ z => by rw [hp7] at z; cases z))
          have hstep : inT lead t r i (sg.drop i) L' = inT lead t r (i + 1) (sg.drop (i + 1)) (L' ++ [(f, r ++ [c])]) := by
            rw [hdrop, inT_new (by rw [hf]; exact hin), hf]
          generalize upd (upd H6 d (.dT (tK kI (L' ++ [(f, r ++ [c])])))) p (.lst ((as ++ [u]).map V.ref)) = H8 at s8' hp8 hd8 ha8 ⊢
          have hti8 := sti _ _ s8' hti
          refine ⟨rfl, hti8, _, rfl, hti8, u, rfl, fun H9 h9 => ?_⟩
          refine ⟨_, rfl, ?_⟩
          refine iteN rfl ?_
          refine ⟨_, as ++ [u], _, _, _, rfl, s8'.trans h9, h9 _ _ hp8, ha8.same h9, h9 _ _ hd8, hW5, hL5p, htr5, ?_⟩
          rw [← hinn, hstep]
      · rintro σ H4 ⟨L', as, s7, s8, s9, rfl, s4, hp4, ha4, hd4, hW4, hL4, htr4, hinn⟩
        have hend : L' = inT lead t r 0 sg L := by
          rw [← hinn, List.length_map, List.drop_length]; rfl
        refine ⟨_, rfl, _, _, rfl, rfl, ?_⟩
        exact ⟨L', as, _, _, _, rfl, s4, hp4, ha4, hd4, hW4, hL4, by rw [hend]; exact hO'⟩
    · have hal : L.length ≤ at_ := by simp only [decide_eq_true_eq] at hc; omega
      rw [outT_none hal] at hO
      refine ⟨_, rfl, p, rfl, ⟨_, SqL.of hp2⟩, fun D hD => ?_⟩
      refine lc_keepH keep_same (walk_list (K := K) (a := p) (xs := as.map V.ref)) hD (by rw [hlen]; exact small1000 (by omega)) (fun j y H => ∃ t, y = .ref t ∧ ∀ q, L[j]? = some q → ∃ u, H t = some (.tup [.ref u, .str (S q.2)]) ∧ H u = some (.tup (tI q.1))) (fun H r => SqL.of (r _ _ hp2))
        (fun _ _ _ _ _ r ⟨t, e, h⟩ => ⟨t, e, fun q hq => let ⟨u, h1, h2⟩ := h q hq; ⟨u, r _ _ h1, r _ _ h2⟩⟩) (fun _ _ _ _ _ _ hDa ⟨t, e, h⟩ => ⟨t, e, fun q hq => by
          obtain ⟨u, h1, h2⟩ := h q hq
          exact ⟨u, by rw [upd_ne (ne_of h1 hDa (by intro h; cases h))]; exact h1, by rw [upd_ne (ne_of h2 hDa (by intro h; cases h))]; exact h2⟩⟩) (fun i x H4 H4' acc R hi r hDa hy hR => ?_) (fun ys H4 hly hg r4 hDs => ?_)
      · obtain ⟨rfl, e⟩ := hy
        have hil : i < L.length := by rw [← hlen]; exact hi
        obtain ⟨q, hq⟩ : ∃ q, L[i]? = some q := ⟨_, List.getElem?_eq_getElem hil⟩
        obtain ⟨a, ea, hat⟩ := (ha2.same r).get hq
        rw [refs_get ea] at e
        obtain rfl := Option.some.inj e
        refine ⟨rfl, _, rfl, _, rfl, _, rfl, d, _, rfl, .inr ⟨_, kI q.1, a, .inl (r _ _ hd2), rfl, by rw [kI_tI]; exact hat, (tK_some mk hW.nd (List.mem_of_getElem? hq)).symm⟩, (by show 2 ≤ sizeLine; decide), fun t ht => hR _ _ (sm_new ht) ⟨t, rfl, fun q' h => by rw [hq] at h; cases h; exact ⟨a, upd_same, sm_new ht _ _ hat⟩⟩⟩
      · obtain ⟨ps, rfl⟩ := refs_of fun j y e => let ⟨t, e', _⟩ := hg j y e; ⟨t, e'⟩
        refine k D ps H4 (s2.trans r4) (s2.free hD) hDs ⟨?_, fun i a q h1 h2 => ?_⟩
        · rw [← hO, ← hlen, ← hly, List.length_map]
        · rw [← hO] at h2
          obtain ⟨t, e, h⟩ := hg i (.ref a) (refs_get h1)
          cases e
          exact h q h2
end
end Toy
set_option maxHeartbeats 2000000
namespace Toy
open PySem L2 C8 SX LX
theorem extN_same {H H' : Hp} (s : Same H H') : LamX.ExtN H H' := fun b o h _ => s b o h
section
variable {P : Program} {w : World} {K : PySem.W.Frag} {mg : Str → Option Value} {base : Heap}
abbrev s_never : Stmt := top 16
abbrev n_never : List Str := ["thing"]
theorem sc_never : FnScope n_never ["thing"] (fnScope s_never) := fnScope_by (by decide +kernel)
theorem ok_neverT {f : Addr} {fd : FuncData} (F : Def K mg "_never" s_never f fd) (b : Binds K fd ["thing"] []) : Cal P w K mg base 1 "_never" spIT [] := by
  refine cal0 F b .nil sc_never (fun vs H Q E h => ?_) (fun cdv A outer s H vs Q E hr h => ?_)
  · obtain ⟨t, rfl, _⟩ := h; rfl
  · obtain ⟨t, rfl, k⟩ := h
    refine ⟨_, (pss_one (ps_ret pe_bl)
      ), ?_⟩
    exact k H (Same.refl H)
theorem held_of {x : Str} {k : Nat} {sp : Sp} {g : Addr} (c : Cal P w K mg base k x sp []) (e : mg x = some (.ref g)) : Held P w K mg base k g sp := by
  obtain ⟨f, fd, ps, ds, F, n, kp, bd, dv⟩ := c.ex
  rw [e] at n; cases n
  cases dv
  exact ⟨fd, ps, F, kp, bd⟩
abbrev s_walked : Stmt := top 15
abbrev n_walked : List Str := ["signs", "begin", "lead"]
theorem sc_walked : FnScope n_walked ["signs", "begin", "lead"] (fnScope s_walked) := fnScope_by (by decide +kernel)
def spWalkedT (n : Nat) (gl : Addr) (trl : Hp → Prop) (lead : List Nat → Nat → List Nat) (sg : List Nat) : Sp := fun vs H Q _ => ∃ (pb : Addr) (b : List Nat), vs = [.str (S sg), .ref pb, .ref gl] ∧ H pb = some (.tup (tI b)) ∧ Tn n b ∧ trl H ∧
  ∀ (p : Addr) (ps : List Addr) (H' : Hp), Same H H' → H p = none → H' p = some (.lst (ps.map V.ref)) → PairsAt H' ps (walkT lead sg b) → Q (.ref p) H'
theorem ok_walkedT {n k : Nat} {gl gn : Addr} {trl : Hp → Prop} {lead : List Nat → Nat → List Nat} {sg : List Nat} (T : BT mg) (mgNv : mg "_never" = some (.ref gn)) (c_until : Cal P w K mg base k "_walked_until" (spUntilT n gl gn trl (fun _ => True) lead sg) [])
    {f : Addr} {fd : FuncData} (F : Def K mg "walked" s_walked f fd) (b : Binds K fd ["signs", "begin", "lead"] []) : Cal P w K mg base (k + 1) "walked" (spWalkedT n gl trl lead sg) [] := by
  refine cal0 F b .nil sc_walked (fun vs H Q E h => ?_) (fun cdv A outer s H vs Q E hr h => ?_)
  · obtain ⟨pb, b, rfl, _⟩ := h; rfl
  · obtain ⟨pb, b, rfl, hb, hn, ht, k⟩ := h
    refine ⟨_, (pss_one (ps_ret (pe_c c_until hr (by first | decide | omega) (by rfl) (pa_cons (pv 0) (pa_cons (pv 1) (pa_cons (pv 2) (pa_cons (pe_glob (v := .ref gn) (by rfl) mgNv rfl) pa_nil))))))
      ), ?_⟩
    refine ⟨_, rfl, _, rfl, _, rfl, ?_⟩
    exact ⟨pb, b, rfl, hb, hn, ht, trivial, k⟩
abbrev s_actlead : Stmt := top 32
abbrev n_actlead : List Str := ["table", "lead"]
theorem sc_actlead : FnScope n_actlead ["table"] (fnScope s_actlead) := fnScope_by (by decide +kernel)
abbrev s_alead : Stmt := (fnBody s_actlead).getD 0 (.Pass ⟨0, 0, 0, 0⟩)
abbrev n_alead : List Str := ["numbers", "at", "table", "number"]
abbrev fr_alead : List Str := ["table"]
theorem sc_alead : LX.NScopeC n_alead ["numbers", "at"] fr_alead (fnScope s_alead) := LX.nscopeC_by (by decide +kernel)
theorem nd_alead : NdefX.ndefB (fnScope s_actlead) (fnScope s_alead) fr_alead = true := by decide +kernel
def TabAt (sg : List Nat) (ms : List (List Nat)) (tg : List Nat → Nat → List Nat) (tb : Addr) (ra : List Nat → Addr) (H : Hp) : Prop := H tb = some (.lst (ms.map fun x => .ref (ra x))) ∧ ∀ x ∈ ms, H (ra x) = some (.lst (tabI sg ms tg x))
def nspALead (sg : List Nat) (ms : List (List Nat)) (tg : List Nat → Nat → List Nat) : List (Option V) → Sp := fun ws vs H Q _ => ∃ (tb a : Addr) (ra : List Nat → Addr) (t : List Nat) (i : Nat), ws = [some (.ref tb)] ∧ vs = [.ref a, .int (i : Nat)] ∧ TabAt sg ms tg tb ra H ∧ H a = some (.tup (tI t)) ∧ Tn ms.length t ∧ ms.length ≤ 4 ∧ i < sg.length ∧
  ∀ (u : Addr) (H' : Hp), Same H H' → H' u = some (.tup (tI (leadN sg ms tg t i))) → Q (.ref u) H'
theorem nok_alead {sg : List Nat} {ms : List (List Nat)} {tg : List Nat → Nat → List Nat} (T : BT mg) {g c' : Addr} {cl : List (Str × Addr)} : NdefX.NOk P w K mg base C8.CX0 1 g (NdefX.NF.of s_alead "lead" "_act_lead.<locals>.lead" cl c') ["numbers", "at"] fr_alead (nspALead sg ms tg) := by
  refine LX.nok_ofC sc_alead (fun _ _ _ us hl => match us, hl with | [_, _], _ => rfl) (fun ws vs H Q E h => ?_) (fun A outer s H vs ws Q E hr hf hc hl h => ?_)
  · obtain ⟨tb, a, ra, t, i, _, rfl, _⟩ := h; rfl
  · obtain ⟨tb, a, ra, t, i, rfl, rfl, ⟨h1, h2⟩, ha, ht, h4, hi, k⟩ := h
    refine ⟨_, (pss_one (ps_ret (pe_callTy (tupleK K) (by rfl) T.m_tuple PyProof.Rows.boot_tuple (pa_cons (pe_lc (own := [("number", 3)]) rfl sc_alead.nd (pi_tup (pv 0)) (blkOk_by (N := n_alead) (sc := fnScope s_alead) (by decide +kernel)) (fun _ _ _ _ _ => (pg_name (i := 3) sc_alead.nd rfl (.inl rfl))) (fun _ _ _ _ _ => pts_nil) (fun _ _ _ _ _ => (pe_ix (ixl K) (pe_ix (ixl K) (pv 2) (pv 3) (fun _ _ => rfl)) (pv 1) (fun _ _ => rfl)))) pa_nil)))
      ), ?_⟩
    obtain ⟨c, hc⟩ : ∃ c, sg[i]? = some c := ⟨_, List.getElem?_eq_getElem hi⟩
    have hcd : sg.getD i 0 = c := by rw [List.getD_eq_getElem?_getD, hc]; rfl
    refine ⟨_, rfl, a, rfl, ⟨_, SqT.of ha⟩, fun D hD => ?_⟩
    refine lc_keep keep_same (walk_tup (K := K) (a := a) (xs := tI t)) hD (by rw [tI_len, ht.1]; exact small1000 (by omega)) (fun j y => ∀ n, t[j]? = some n → y = .int (ms.idxOf (tg (ms.getD n []) (sg.getD i 0)) : Nat)) (fun H r => SqT.of (r _ _ ha)) (fun j x H3 H3' R hj r3 hy hR => ?_) (fun ys H3 hly hg r3 hDs => ?_)
    · obtain ⟨rfl, e⟩ := hy
      obtain ⟨n, hn, rfl⟩ := tI_get e
      have hnl := ht.2 n (List.mem_of_getElem? hn)
      obtain ⟨x, hx⟩ : ∃ x, ms[n]? = some x := ⟨_, List.getElem?_eq_getElem hnl⟩
      have hxd : ms.getD n [] = x := getD_of hx
      have hm : x ∈ ms := List.mem_of_getElem? hx
      refine ⟨rfl, ?_⟩
      refine ⟨_, rfl, _, rfl, tb, _, n, .ref (ra x), rfl, rfl, SqL.of (r3 _ _ h1), atI_nat (by rw [List.getElem?_map, hx]; rfl), ?_⟩
      refine ⟨_, rfl, ra x, _, i, .int (ms.idxOf (tg (ms.getD n []) (sg.getD i 0)) : Nat), rfl, rfl, SqL.of (r3 _ _ (h2 x hm)), atI_nat (by unfold tabI; rw [List.getElem?_map, hc, hxd, hcd]; rfl), ?_⟩
      exact hR _ _ (Same.refl _) fun n2 h2 => by rw [hn] at h2; cases h2; rfl
    · have ey : ys = tI (leadN sg ms tg t i) := tI_of (f := fun x => ms.idxOf (tg (ms.getD x []) (sg.getD i 0))) hly fun j y e n en => hg j y e n en
      subst ey
      exact nil1 ⟨D, _, rfl, .inl ⟨SqL.of hDs, fun u hu => k u _ (r3.trans (sm_new hu)) upd_same⟩⟩
def trA (cl : List (Str × Addr)) (gl c' : Addr) (sg : List Nat) (ms : List (List Nat)) (tg : List Nat → Nat → List Nat) (tb : Addr) (ra : List Nat → Addr) (H : Hp) : Prop :=
  H gl = some (NdefX.FnO gl (NdefX.NF.of s_alead "lead" "_act_lead.<locals>.lead" cl c')) ∧ H c' = some (LamX.CodeO c' "_act_lead.<locals>.lead") ∧ TabAt sg ms tg tb ra H
theorem trA_same {cl : List (Str × Addr)} {gl c' : Addr} {sg : List Nat} {ms : List (List Nat)} {tg : List Nat → Nat → List Nat} {tb : Addr} {ra : List Nat → Addr} {H H' : Hp} (s : Same H H') (h : trA cl gl c' sg ms tg tb ra H) : trA cl gl c' sg ms tg tb ra H' :=
  ⟨s _ _ h.1, s _ _ h.2.1, s _ _ h.2.2.1, fun x hx => s _ _ (h.2.2.2 x hx)⟩
def SxE (c : Addr) (w0 : V) (sp : Sp) : Prop := ∃ (sg : List Nat) (ms : List (List Nat)) (f : List Nat) (tg : List Nat → Nat → List Nat) (gl c' tb : Addr) (ra : List Nat → Addr), Good sg ms f tg ∧ ms.length ≤ 4 ∧ w0 = .ref tb ∧
  sp = spWalkedT ms.length gl (trA [("table", c)] gl c' sg ms tg tb ra) (leadN sg ms tg) sg
theorem up_walkedE (T : BT mg) {gn gu gw : Addr} {fn fu fw : FuncData} (F_never : Def K mg "_never" s_never gn fn) (b_never : Binds K fn ["thing"] []) (F_until : Def K mg "_walked_until" s_until gu fu) (b_until : Binds K fu ["signs", "begin", "lead", "is_last"] [])
    (F_walked : Def K mg "walked" s_walked gw fw) (b_walked : Binds K fw ["signs", "begin", "lead"] []) (c : Addr) (w0 : V) (sp : Sp) (base' : Heap) (h : SxE c w0 sp) (_ : K.In base') (_ : base'.Ns mainGlobals mg) (B : BCells [("table", c)] ["table"] [some w0] base') : Cal P w K mg base' 3 "walked" sp [] := by
  obtain ⟨sg, ms, f, tg, gl, c', tb, ra, g, h4, rfl, rfl⟩ := h
  refine ok_walkedT T F_never.mgf (ok_untilT h4 g.hsg.2.2.1 T (.inr ⟨_, _, _, _, _, nok_alead (sg := sg) (ms := ms) (tg := tg) T (c' := c') (cl := [("table", c)]), fun vs H Q htr q => ?_, B, fun H htr => ⟨htr.1, htr.2.1⟩⟩) (.inl (held_of (ok_neverT F_never b_never) F_never.mgf)) (fun _ _ s h => trA_same s h) (fun _ _ _ h => h) (leadN_ok g.htg rfl) F_until b_until) F_walked b_walked
  obtain ⟨a, t, i, rfl, ha, ht, hi, k⟩ := q
  exact ⟨tb, a, ra, t, i, rfl, rfl, htr.2.2, ha, ht, h4, hi, k⟩
def spActLead (TT : List NdefX.NTab) : Sp := fun vs H Q _ => ∃ tb : Addr, vs = [.ref tb] ∧ NdefX.TabsN TT H ∧
  ∀ (g c' c : Addr) (H' : Hp), LamX.ExtN H H' → NdefX.TabsN TT H' → H c = none → g ≠ c → c' ≠ c → H' g = some (NdefX.FnO g (NdefX.NF.of s_alead "lead" "_act_lead.<locals>.lead" [("table", c)] c')) → H' c' = some (LamX.CodeO c' "_act_lead.<locals>.lead") → H' c = some (CellO c (.ref tb)) → Q (.ref g) H'
theorem ok_actlead (T : BT mg) {TT : List NdefX.NTab} {nm : Nat → Nat → Str} {cc PP : Addr} (TB : LamX.TabB base mg cc PP) (hm : (PP, nm) ∈ TT) (hnm : nm = fun _ _ => ("_act_lead.<locals>.lead" : Str)) (hu : ∀ p ∈ TT, p.1 = PP → p.2 = nm)
    {f : Addr} {fd : FuncData} (F : Def K mg "_act_lead" s_actlead f fd) (hc : fd.code = .ref cc) (b : Binds K fd ["table"] []) : Cal P w K mg base 1 "_act_lead" (spActLead TT) [] := by
  subst hnm
  refine calE (i := 0) (y := "table") F hc b .nil sc_actlead (fun vs H Q E h => ?_) rfl rfl (by decide +kernel) (fun A outer s H vs Q E hr h => ?_)
  · obtain ⟨tb, rfl, _⟩ := h; rfl
  · obtain ⟨tb, rfl, hT, k⟩ := h
    refine ⟨_, _, (NdefX.ps_ndefS (st := s_alead) (i := 1) rfl TB rfl hm rfl hu (NdefX.ndef_free nd_alead) rfl rfl rfl sc_actlead.nd rfl (.inl rfl) (.inl rfl)), (pv 1), ?_⟩
    refine ⟨hT, fun g c' H2 e2 hT2 n2 hg hc' => ?_⟩
    refine ⟨_, rfl, _, rfl, fun c hcl hc2 hc0 => ?_⟩
    have hclo : cloFrom (cellsFrom (s.heap.objs.size + 1) (fnScope s_actlead).names []) (fnScope s_alead).names [] = [(("table" : Str), c)] := by
      have e : ∀ cells : List (Str × Addr), cloFrom cells (fnScope s_alead).names [] = [(("table" : Str), (cells.lookup ("table" : Str)).getD 0)] := fun _ => rfl
      rw [e, hcl]; rfl
    have hg' : H2 g = some (NdefX.FnO g (NdefX.NF.of s_alead "lead" "_act_lead.<locals>.lead" [("table", c)] c')) := by rw [← hclo]; exact hg
    have hcg : g ≠ c := fun e => by rw [e, hc2] at hg; cases hg
    have hcc : c' ≠ c := fun e => by rw [e, hc2] at hc'; cases hc'
    have hTc : ∀ b o, H2 b = some o → (upd H2 c (CellO c (.ref tb))) b = some o := fun b o e => by rw [upd_ne (fun z => by rw [z, hc2] at e; cases e)]; exact e
    exact k g c' c _ (fun b o e n => hTc b o (e2 b o e n)) (hT2.ext hTc) hc0 hcg hcc (hTc _ _ hg') (hTc _ _ hc') upd_same
abbrev s_acts : Stmt := top 31
abbrev n_acts : List Str := ["reader", "table", "pairs", "numbers", "row"]
theorem sc_acts : FnScope n_acts ["reader"] (fnScope s_acts) := fnScope_by (by decide +kernel)
def NamesAt (H : Hp) (ps : List Addr) (ms : List (List Nat)) (L : WT) : Prop := ps.length = L.length ∧ ∀ (i : Nat) (a : Addr) (q : List Nat × List Nat), ps[i]? = some a → L[i]? = some q → ∃ u, H a = some (.tup [.ref u, .str (S q.2)]) ∧ H u = some (.tup (txs (nmT ms q.1)))
def spActs (C : Addr) (TT : List NdefX.NTab) : Sp := fun vs H Q _ => ∃ (a : Addr) (sg : List Nat) (ms : List (List Nat)) (f : List Nat) (tg : List Nat → Nat → List Nat), vs = [.ref a] ∧ Rdr C H a sg ms f tg ∧ Good sg ms f tg ∧ ms.length ≤ 4 ∧ NdefX.TabsN TT H ∧
  ∀ (p : Addr) (ps : List Addr) (H' : Hp), LamX.ExtN H H' → NdefX.TabsN TT H' → H' p = some (.tup (ps.map V.ref)) → NamesAt H' ps ms (actsW sg ms tg) → Q (.ref p) H'
theorem RdrAt.ext {C : Addr} {H H' : Hp} {a : Addr} {sg : List Nat} {ms : List (List Nat)} {f : List Nat} {tg : List Nat → Nat → List Nat} {dx m st nu le : Addr} {sa la : List Nat → Addr} {t : List (Str × V)} (h : RdrAt C H a sg ms f tg dx m st nu le sa la t) (s : LamX.ExtN H H') : RdrAt C H' a sg ms f tg dx m st nu le sa la t :=
  ⟨s _ _ h.ha (by intro _ z; cases z), s _ _ h.hm (by intro _ z; cases z), s _ _ h.hst (by intro _ z; cases z), fun x hx => s _ _ (h.hsa x hx) (by intro _ z; cases z), s _ _ h.hnu (by intro _ z; cases z), s _ _ h.hle (by intro _ z; cases z), fun x hx => s _ _ (h.hla x hx) (by intro _ z; cases z)⟩
theorem Rdr.ext {C : Addr} {H H' : Hp} {a : Addr} {sg : List Nat} {ms : List (List Nat)} {f : List Nat} {tg : List Nat → Nat → List Nat} (r : Rdr C H a sg ms f tg) (s : LamX.ExtN H H') : Rdr C H' a sg ms f tg :=
  let ⟨dx, m, st, nu, le, sa, la, co, ca, h, hc⟩ := r; ⟨dx, m, st, nu, le, sa, la, co, ca, h.ext s, ⟨s _ _ hc.hco (by intro _ z; cases z), fun c hx => s _ _ (hc.hca c hx) (by intro _ z; cases z)⟩⟩
theorem ok_acts {C : Addr} (T : BT mg) (CH : CR K C) {TT : List NdefX.NTab} (c_table : Cal P w K mg base 2 "table_of" (spTable C) []) (c_actlead : Cal P w K mg base 1 "_act_lead" (spActLead TT) []) (c_marksat : Cal P w K mg base 1 "_marks_at" (spMarksAt C) [])
    {gw : Addr} {fw : FuncData} (F_walked : Def K mg "walked" s_walked gw fw) (up_walked : ∀ (c : Addr) (w0 : V) (sp : Sp) (base' : Heap), SxE c w0 sp → K.In base' → base'.Ns mainGlobals mg → BCells [("table", c)] ["table"] [some w0] base' → Cal P w K mg base' 3 "walked" sp [])
    {f : Addr} {fd : FuncData} (F : Def K mg "acts" s_acts f fd) (b : Binds K fd ["reader"] []) : Cal P w K mg base 4 "acts" (spActs C TT) [] := by
  refine cal0 F b .nil sc_acts (fun vs H Q E h => ?_) (fun cdv A outer s H vs Q E hr h => ?_)
  · obtain ⟨a, sg, ms, f, tg, rfl, _⟩ := h; rfl
  · obtain ⟨a, sg, ms, f, tg, rfl, hrd, hgd, h4, hT, k⟩ := h
    refine ⟨_, (pss_cons (ps_set (i := 1) sc_acts.nd rfl (.inl rfl) (pe_c c_table hr (by first | decide | omega) (by rfl) (pa_cons (pv 0) pa_nil)))
      (pss_cons (ps_set (i := 2) sc_acts.nd rfl (.inl rfl) (pe_cUpE F_walked.mgf F_walked.kp up_walked hr (Nat.le_refl _) (by rfl) (pa_cons (fldK K (pv 0) rfl) (pa_cons (pe_tupRg rfl (by rfl) T.m_tuple (prg_1 (by rfl) T.m_range (pe_callB (lenK K) (by rfl) T.m_len PySem.boot_len (pa_cons (pv 1) pa_nil)))) (pa_cons (pe_c c_actlead hr (by first | decide | omega) (by rfl) (pa_cons (pv 1) pa_nil)) pa_nil)))))
      (pss_one (ps_ret (pe_callTy (tupleK K) (by rfl) T.m_tuple PyProof.Rows.boot_tuple (pa_cons (pe_lc (own := [("numbers", 3), ("row", 4)]) rfl sc_acts.nd (pi_list (pv 2)) (blkOk_by (N := n_acts) (sc := fnScope s_acts) (by decide +kernel)) (fun _ _ _ _ _ => (tupK K 2 (pgs_cons (pg_name (i := 3) sc_acts.nd rfl (.inl rfl)) (pgs_cons (pg_name (i := 4) sc_acts.nd rfl (.inl rfl)) pgs_nil)))) (fun _ _ _ _ _ => pts_nil) (fun _ _ _ _ _ => (pe_tup (pa_cons (pe_c c_marksat hr (by first | decide | omega) (by rfl) (pa_cons (pv 0) (pa_cons (pv 3) pa_nil))) (pa_cons (pv 4) pa_nil))))) pa_nil)))
      ))), ?_⟩
    refine ⟨_, rfl, a, sg, ms, f, tg, rfl, hrd.to0, hgd, fun tb ra H1 s1 n1 h1 hra => ?_⟩
    obtain ⟨dx, m, st, nu, le, sa, la, co, ca, r1, hcol⟩ := hrd.same s1
    refine ⟨_, rfl, a, C, dx, _, _, rfl, r1.ha, CH.cl, CH.nS, rl_signs, ?_⟩
    refine ⟨_, rfl, tb, _, rfl, .inl (SqL.of h1), _, rfl, ?_⟩
    rw [List.length_map]
    refine ⟨RgOk.of_le (by omega) (by omega) (by omega) (by omega), fun pb hpb => ?_⟩
    rw [rgV_tI]
    have s2 : Same H1 (upd H1 pb (.tup (tI (List.range ms.length)))) := sm_new hpb
    have hpb2 : (upd H1 pb (.tup (tI (List.range ms.length)))) pb = some (.tup (tI (List.range ms.length))) := upd_same
    generalize upd H1 pb (.tup (tI (List.range ms.length))) = H2 at s2 hpb2
    have s12 := s1.trans s2
    refine ⟨_, rfl, tb, rfl, hT.ext s12, fun g c' c H3 e3 hT3 hc0 hgc hcc hg hc' hcell => ?_⟩
    have hne : ∀ b o, H2 b = some o → b ≠ c := fun b o e z => by rw [z, hc0] at e; cases e
    have hd3 : ∀ b o, H2 b = some o → (∀ ps, o ≠ .tbl ps) → (delH H3 c) b = some o := fun b o e n => by rw [delH_ne (hne b o e)]; exact e3 b o e n
    have htb : TabAt sg ms tg tb ra (delH H3 c) := ⟨hd3 _ _ (s2 _ _ h1) (by intro _ z; cases z), fun x hx => hd3 _ _ (s2 _ _ (hra x hx)) (by intro _ z; cases z)⟩
    refine ⟨c, .ref tb, _, hcell, ⟨sg, ms, f, tg, g, c', tb, ra, hgd, h4, rfl, rfl⟩, pb, List.range ms.length, rfl, hd3 _ _ hpb2 (by intro _ z; cases z), range_ok, ⟨by rw [delH_ne hgc]; exact hg, by rw [delH_ne hcc]; exact hc', htb⟩, fun p ps H4 s4 n4 hp4 hps hc4 => ?_⟩
    have s45 : Same H4 (upd H4 c (CellO c (.ref tb))) := fun b o e => by rw [upd_ne (fun z => by rw [z, hc4] at e; cases e)]; exact e
    have s35 : Same H3 (upd H4 c (CellO c (.ref tb))) := fun b o e => by
      by_cases z : b = c
      · rw [z, hcell] at e; cases e; rw [z]; exact upd_same
      · exact s45 b o (s4 b o (by rw [delH_ne z]; exact e))
    have hp5 := s45 _ _ hp4
    have hps5 : PairsAt (upd H4 c (CellO c (.ref tb))) ps (actsW sg ms tg) := ⟨hps.1, fun i a q e1 e2 => let ⟨u, h1, h2⟩ := hps.2 i a q e1 e2; ⟨u, s45 _ _ h1, s45 _ _ h2⟩⟩
    have e5 : LamX.ExtN H (upd H4 c (CellO c (.ref tb))) := ((extN_same s12).trans e3).trans (extN_same s35)
    have hT5 := hT3.ext s35
    generalize upd H4 c (CellO c (.ref tb)) = H5 at hp5 hps5 e5 hT5 s35
    clear s45 hps hp4 n4 s4 hc4
    have hW : TOk ms.length (actsW sg ms tg) := walkT_ok range_ok (leadN_ok hgd.htg rfl)
    have hWl := hW.len h4
    have hlen : (ps.map V.ref).length = (actsW sg ms tg).length := by rw [List.length_map, hps5.1]
    refine ⟨_, rfl, p, rfl, ⟨_, SqL.of hp5⟩, fun D hD => ?_⟩
    refine lc_keepH keep_same (walk_list (K := K) (a := p) (xs := ps.map V.ref)) hD (by rw [hlen]; exact small1000 (by omega)) (fun j y H => ∃ t, y = .ref t ∧ ∀ q, (actsW sg ms tg)[j]? = some q → ∃ u, H t = some (.tup [.ref u, .str (S q.2)]) ∧ H u = some (.tup (txs (nmT ms q.1)))) (fun H r => SqL.of (r _ _ hp5))
      (fun _ _ _ _ _ r ⟨t, e, h⟩ => ⟨t, e, fun q hq => let ⟨u, h1, h2⟩ := h q hq; ⟨u, r _ _ h1, r _ _ h2⟩⟩) (fun _ _ _ _ _ _ hDa ⟨t, e, h⟩ => ⟨t, e, fun q hq => by
        obtain ⟨u, h1, h2⟩ := h q hq
        exact ⟨u, by rw [upd_ne (ne_of h1 hDa (by intro h; cases h))]; exact h1, by rw [upd_ne (ne_of h2 hDa (by intro h; cases h))]; exact h2⟩⟩) (fun i x H6 H6' acc R hi r hDa hy hR => ?_) (fun ys H6 hly hg r6 hDs => ?_)
    · obtain ⟨rfl, e⟩ := hy
      have hil : i < (actsW sg ms tg).length := by rw [← hlen]; exact hi
      obtain ⟨q, hq⟩ : ∃ q, (actsW sg ms tg)[i]? = some q := ⟨_, List.getElem?_eq_getElem hil⟩
      have hip : i < ps.length := by rw [hps5.1]; exact hil
      obtain ⟨u, hu1, hu2⟩ := hps5.2 i ps[i] q (List.getElem?_eq_getElem hip) hq
      rw [refs_get (List.getElem?_eq_getElem hip)] at e
      obtain rfl := Option.some.inj e
      have hTq := hW.mem q (List.mem_of_getElem? hq)
      refine ⟨ps[i], _, rfl, .inl (.inl (r _ _ hu1)), rfl, _, _, rfl, _, _, rfl, rfl, rfl, ?_⟩
      have hr6 : Rdr C H6' a sg ms f tg := ((hrd.ext e5).same r)
      refine ⟨_, rfl, _, rfl, a, u, sg, ms, f, tg, q.1, rfl, hr6, r _ _ hu2, hTq.2, by rw [hTq.1]; omega, fun v H7 s7 hv h7 => ?_⟩
      refine ⟨_, rfl, (by show 2 ≤ sizeLine; decide), fun t ht => hR _ _ (s7.trans (sm_new ht)) ⟨t, rfl, fun q' h => by rw [hq] at h; cases h; exact ⟨v, upd_same, sm_new ht _ _ h7⟩⟩⟩
    · obtain ⟨qs, rfl⟩ := refs_of fun j y e => let ⟨t, e', _⟩ := hg j y e; ⟨t, e'⟩
      refine nil1 ⟨D, _, rfl, .inl ⟨SqL.of hDs, fun l hl => ?_⟩⟩
      have s7 : Same H6 (upd H6 l (.tup (qs.map V.ref))) := sm_new hl
      refine k l qs _ ((e5.trans (extN_same r6)).trans (extN_same s7)) ((hT5.ext r6).ext s7) upd_same ⟨?_, fun i a q h1 h2 => ?_⟩
      · rw [← hlen, ← hly, List.length_map]
      · obtain ⟨t, e, h⟩ := hg i (.ref a) (refs_get h1)
        cases e
        obtain ⟨u, h1, h2⟩ := h q h2
        exact ⟨u, s7 _ _ h1, s7 _ _ h2⟩
end
end Toy
set_option maxHeartbeats 4000000
namespace Toy
open PySem L2 C8 SX LX
theorem inT_dok {sg : List Nat} {ms : List (List Nat)} {tg : List Nat → Nat → List Nat} (htg : ∀ m ∈ ms, ∀ c ∈ sg, tg m c ∈ ms) {t r : List Nat} (ht : t = deedN ms tg r ∧ Ov sg r) : ∀ (cs : List Nat) (i : Nat) (L : WT), DOk sg ms tg L → (∀ j c, cs[j]? = some c → sg[i + j]? = some c) → DOk sg ms tg (inT (leadN sg ms tg) t r i cs L)
  | [], _, L, h, _ => h
  | c :: cs, i, L, h, hc => by
    have hci : sg[i]? = some c := by have := hc 0 c rfl; rwa [Nat.add_zero] at this
    have hcs : ∀ j d, cs[j]? = some d → sg[i + 1 + j]? = some d := fun j d e => by have := hc (j + 1) d e; rwa [show i + (j + 1) = i + 1 + j by omega] at this
    by_cases hin : leadN sg ms tg t i ∈ L.map (·.1)
    · rw [inT_in hin]; exact inT_dok htg ht cs (i + 1) L h hcs
    · rw [inT_new hin]
      refine inT_dok htg ht cs (i + 1) _ (fun p hp => ?_) hcs
      rcases List.mem_append.mp hp with q | q
      · exact h p q
      · rw [List.mem_singleton.mp q]
        refine ⟨?_, ov_app ht.2 (List.mem_of_getElem? hci)⟩
        show leadN sg ms tg t i = _
        rw [ht.1]; exact deedN_step htg ht.2 hci
theorem outT_dok {sg : List Nat} {ms : List (List Nat)} {tg : List Nat → Nat → List Nat} (htg : ∀ m ∈ ms, ∀ c ∈ sg, tg m c ∈ ms) : ∀ (n at_ : Nat) (L : WT), DOk sg ms tg L → DOk sg ms tg (outT (leadN sg ms tg) sg n at_ L)
  | 0, _, L, h => h
  | n + 1, at_, L, h => by
    cases e : L[at_]? with
    | none => rw [outT_none (by rw [List.getElem?_eq_none_iff] at e; exact e)]; exact h
    | some q =>
      obtain ⟨t, r⟩ := q
      rw [outT_some e]
      have ht : t = deedN ms tg r ∧ Ov sg r := h _ (List.mem_of_getElem? e)
      exact outT_dok htg n _ _ (inT_dok htg ht sg 0 L h fun j c hj => by rw [Nat.zero_add]; exact hj)
theorem inT_fst {lead : List Nat → Nat → List Nat} {t r : List Nat} {q : List Nat × List Nat} : ∀ (cs : List Nat) (i : Nat) (L : WT), L[0]? = some q → (inT lead t r i cs L)[0]? = some q
  | [], _, _, h => h
  | c :: cs, i, L, h => by
    by_cases hin : lead t i ∈ L.map (·.1)
    · rw [inT_in hin]; exact inT_fst cs (i + 1) L h
    · rw [inT_new hin]
      refine inT_fst cs (i + 1) _ ?_
      rw [List.getElem?_append_left (List.getElem?_eq_some_iff.mp h).1]; exact h
theorem outT_fst {lead : List Nat → Nat → List Nat} {sg : List Nat} {q : List Nat × List Nat} : ∀ (n at_ : Nat) (L : WT), L[0]? = some q → (outT lead sg n at_ L)[0]? = some q
  | 0, _, _, h => h
  | n + 1, at_, L, h => by
    cases e : L[at_]? with
    | none => rw [outT_none (by rw [List.getElem?_eq_none_iff] at e; exact e)]; exact h
    | some q =>
      obtain ⟨t, r⟩ := q
      rw [outT_some e]; exact outT_fst n _ _ (inT_fst sg 0 L h)
theorem acts_fst {sg : List Nat} {ms : List (List Nat)} {tg : List Nat → Nat → List Nat} : (actsW sg ms tg)[0]? = some (List.range ms.length, []) := outT_fst _ _ _ rfl
theorem acts_dok {sg : List Nat} {ms : List (List Nat)} {tg : List Nat → Nat → List Nat} (htg : ∀ m ∈ ms, ∀ c ∈ sg, tg m c ∈ ms) (nd : ms.Nodup) : DOk sg ms tg (actsW sg ms tg) :=
  outT_dok htg _ _ _ fun q hq => by rw [List.mem_singleton.mp hq]; exact ⟨(deedN_nil nd).symm, fun _ h => nomatch h⟩
theorem nmT_range {ms : List (List Nat)} (nd : ms.Nodup) : nmT ms (List.range ms.length) = ms := by
  rw [← deedN_nil (tg := fun m _ => m) nd, deed_names (sg := []) (fun _ _ _ h => nomatch h) (l := []) (fun _ h => nomatch h)]
  show (ms.map fun m => m) = _
  rw [List.map_id']
def acD (ms : List (List Nat)) (L : WT) : PyData := .tuple (L.map fun q => .tuple [tD (nmT ms q.1), .str (S q.2)])
theorem dpAll_idx {K : PySem.W.Frag} {H : Hp} {α : Type} {g : α → PyData} : ∀ {ps : List Addr} {L : List α}, ps.length = L.length → (∀ (i : Nat) a q, ps[i]? = some a → L[i]? = some q → Dp K H (.ref a) (g q)) → DpAll K H (ps.map V.ref) (L.map g)
  | [], [], _, _ => .nil
  | p :: ps, q :: L, e, h => .cons (h 0 p q rfl rfl) (dpAll_idx (by simpa using e) fun i a q h1 h2 => h (i + 1) a q h1 h2)
  | [], _ :: _, e, _ => by simp at e
  | _ :: _, [], e, _ => by simp at e
theorem dp_ac {K : PySem.W.Frag} {H : Hp} {p : Addr} {ps : List Addr} {ms : List (List Nat)} {L : WT} (h : H p = some (.tup (ps.map V.ref))) (hn : NamesAt H ps ms L) : Dp K H (.ref p) (acD ms L) :=
  .tup (SqT.of h) (dpAll_idx hn.1 fun i a q h1 h2 => by
    obtain ⟨u, e1, e2⟩ := hn.2 i a q h1 h2
    exact .tup (SqT.of e1) (.cons (dp_t (SqT.of e2)) (.cons (.str _) .nil)))
theorem name_letters {m : List Nat} (h : Name m) : ∀ c ∈ m, c < 1114112 := fun c hc => by have := h.2.2.1 c hc; omega
theorem Good.small {sg : List Nat} {ms : List (List Nat)} {f : List Nat} {tg : List Nat → Nat → List Nat} (g : Good sg ms f tg) : Small ms := fun m hm => name_letters (g.hnm m hm)
theorem Good.subS {sg : List Nat} {ms : List (List Nat)} {f : List Nat} {tg : List Nat → Nat → List Nat} (g : Good sg ms f tg) {xs : List (List Nat)} (h : ∀ x ∈ xs, x ∈ ms) : Small xs := fun m hm => g.small m (h m hm)
theorem nmT_sub {ms : List (List Nat)} {t : List Nat} (h : ∀ x ∈ t, x < ms.length) : ∀ x ∈ nmT ms t, x ∈ ms := fun x hx => by
  obtain ⟨i, hi, rfl⟩ := List.mem_map.mp hx
  rw [List.getD_eq_getElem?_getD, List.getElem?_eq_getElem (h i hi)]
  exact List.getElem_mem _
theorem acts_fit {sg : List Nat} {ms : List (List Nat)} {f : List Nat} {tg : List Nat → Nat → List Nat} (g : Good sg ms f tg) (h4 : ms.length ≤ 4) : Fit 6 131840 (acD ms (actsW sg ms tg)) ∧ ∀ q ∈ actsW sg ms tg, Fit 4 514 (.tuple [tD (nmT ms q.1), .str (S q.2)]) := by
  have hW : TOk ms.length (actsW sg ms tg) := walkT_ok range_ok (leadN_ok g.htg rfl)
  have hl := hW.len h4
  have one : ∀ q ∈ actsW sg ms tg, Fit 4 514 (.tuple [tD (nmT ms q.1), .str (S q.2)]) := fun q hq => by
    have hm := hW.mem q hq
    have hr := hW.rl q hq
    have ho := (acts_dok g.htg g.hnd q hq).2
    refine (Fit.tup (k := 2) (n := 256) (m := 2) (fun d hd => ?_) (by show 2 ≤ 2; decide)).mono (by decide) (by decide)
    rcases List.mem_cons.mp hd with rfl | hd
    · refine (fit_t (m := 4) (n := 6) (g.subS (nmT_sub hm.2)) (fun l hl => (g.hnm l (nmT_sub hm.2 l hl)).2.1) (by unfold nmT; rw [List.length_map, hm.1]; exact h4)).mono (by decide) (by decide)
    · rw [List.mem_singleton.mp hd]
      exact Fit.text (fun c hc => by have := g.hsg.2.2.2 c (ho c hc); omega) (by omega)
  exact ⟨Fit.tup (k := 4) (n := 514) (m := 256) (fun d hd => by obtain ⟨q, hq, rfl⟩ := List.mem_map.mp hd; exact one q hq) (by rw [List.length_map]; exact hl), one⟩
def KL (H H' : Hp) : Prop := ∀ a o, H a = some o → (∀ xs, o ≠ .lst xs) → (∀ ps, o ≠ .tbl ps) → H' a = some o
theorem kl_same {H H' : Hp} (s : Same H H') : KL H H' := fun a o e _ _ => s a o e
theorem kl_ext {H H' : Hp} (s : LamX.ExtN H H') : KL H H' := fun a o e _ n => s a o e n
theorem flow_lst {f c a : Addr} {H : Hp} (h : FlowAt f c H) {o : HO} (e : H a = some o) (n : ∀ xs, o ≠ .lst xs) : a ≠ f ∧ a ≠ c := by
  obtain ⟨_, ⟨s, t, e1⟩, cs, e2, _⟩ := h
  exact ⟨fun z => by rw [z, e1] at e; exact n _ (Option.some.inj e).symm, fun z => by rw [z, e2] at e; exact n _ (Option.some.inj e).symm⟩
theorem kl_fx {f c : Addr} {H H' : Hp} (h : FlowAt f c H) (s : Fx f c H H') : KL H H' := fun a o e n _ => s.1 a o (flow_lst h e n).1 (flow_lst h e n).2 e
theorem Draft.kl {K : PySem.W.Frag} {H H' : Hp} {q pm pd : Addr} {ms : List (List Nat)} {b sg : List Nat} {kvs : List (List Key × V)} (d : Draft K H q pm pd ms b sg kvs) (s : KL H H') : Draft K H' q pm pd ms b sg kvs :=
  ⟨s _ _ d.top (by intro _ z; cases z) (by intro _ z; cases z), s _ _ d.marks (by intro _ z; cases z) (by intro _ z; cases z), s _ _ d.goes (by intro _ z; cases z) (by intro _ z; cases z), d.full, d.few, d.first, d.nd, d.nm, d.pos⟩
theorem RdrAt.kl {C : Addr} {H H' : Hp} {a : Addr} {sg : List Nat} {ms : List (List Nat)} {f : List Nat} {tg : List Nat → Nat → List Nat} {dx m st nu le : Addr} {sa la : List Nat → Addr} {t : List (Str × V)} (h : RdrAt C H a sg ms f tg dx m st nu le sa la t) (s : KL H H') : RdrAt C H' a sg ms f tg dx m st nu le sa la t := by
  have k : ∀ {a : Addr} {o : HO}, H a = some o → (∀ xs, o ≠ .lst xs) → (∀ ps, o ≠ .tbl ps) → H' a = some o := fun e n1 n2 => s _ _ e n1 n2
  exact ⟨k h.ha (by intro _ z; cases z) (by intro _ z; cases z), k h.hm (by intro _ z; cases z) (by intro _ z; cases z), k h.hst (by intro _ z; cases z) (by intro _ z; cases z), fun x hx => k (h.hsa x hx) (by intro _ z; cases z) (by intro _ z; cases z), k h.hnu (by intro _ z; cases z) (by intro _ z; cases z), k h.hle (by intro _ z; cases z) (by intro _ z; cases z), fun x hx => k (h.hla x hx) (by intro _ z; cases z) (by intro _ z; cases z)⟩
theorem Rdr.kl {C : Addr} {H H' : Hp} {a : Addr} {sg : List Nat} {ms : List (List Nat)} {f : List Nat} {tg : List Nat → Nat → List Nat} (r : Rdr C H a sg ms f tg) (s : KL H H') : Rdr C H' a sg ms f tg :=
  let ⟨dx, m, st, nu, le, sa, la, co, ca, h, hc⟩ := r; ⟨dx, m, st, nu, le, sa, la, co, ca, h.kl s, ⟨s _ _ hc.hco (by intro _ z; cases z) (by intro _ z; cases z), fun c hx => s _ _ (hc.hca c hx) (by intro _ z; cases z) (by intro _ z; cases z)⟩⟩
structure LvF (K : PySem.W.Frag) (TT : List NdefX.NTab) (C : Addr) (H0 H : Hp) (f c q pm pd : Addr) (ms : List (List Nat)) (b sg : List Nat) (kvs : List (List Key × V)) (p : Addr) : Prop where
  nf : H0 f = none
  nc : H0 c = none
  ext : LamX.ExtN H0 H
  tabs : NdefX.TabsN TT H
  flow : FlowAt f c H
  draft : Draft K H q pm pd ms b sg kvs
  rdr : Rdr C H p sg ms b (tgD kvs)
section
variable {K : PySem.W.Frag} {TT : List NdefX.NTab} {C : Addr} {H0 H H' : Hp} {f c q pm pd : Addr} {ms : List (List Nat)} {b sg : List Nat} {kvs : List (List Key × V)} {p : Addr}
theorem flow_same (h : FlowAt f c H) (s : Same H H') : FlowAt f c H' := let ⟨n, ⟨x, t, e1⟩, cs, e2, l⟩ := h; ⟨n, ⟨x, t, s _ _ e1⟩, cs, s _ _ e2, l⟩
theorem flow_ext (h : FlowAt f c H) (s : LamX.ExtN H H') : FlowAt f c H' := let ⟨n, ⟨x, t, e1⟩, cs, e2, l⟩ := h; ⟨n, ⟨x, t, s _ _ e1 (by intro _ z; cases z)⟩, cs, s _ _ e2 (by intro _ z; cases z), l⟩
theorem tabs_fx (t : NdefX.TabsN TT H) (hb : FlowAt f c H) (s : Fx f c H H') : NdefX.TabsN TT H' := fun p hp => by
  obtain ⟨ps, h1, h2, h3⟩ := t p hp
  have n1 := flow_lst hb h1 (by intro _ z; cases z)
  refine ⟨ps, s.1 _ _ n1.1 n1.2 h1, h2, fun pos cv hc => ?_⟩
  obtain ⟨c, e1, e2⟩ := h3 pos cv hc
  have n2 := flow_lst hb e2 (by intro _ z; cases z)
  exact ⟨c, e1, s.1 _ _ n2.1 n2.2 e2⟩
theorem LvF.same (l : LvF K TT C H0 H f c q pm pd ms b sg kvs p) (s : Same H H') : LvF K TT C H0 H' f c q pm pd ms b sg kvs p := ⟨l.nf, l.nc, l.ext.trans (extN_same s), l.tabs.ext s, flow_same l.flow s, l.draft.same s, l.rdr.same s⟩
theorem LvF.more (l : LvF K TT C H0 H f c q pm pd ms b sg kvs p) (s : LamX.ExtN H H') (t : NdefX.TabsN TT H') : LvF K TT C H0 H' f c q pm pd ms b sg kvs p := ⟨l.nf, l.nc, l.ext.trans s, t, flow_ext l.flow s, l.draft.kl (kl_ext s), l.rdr.ext s⟩
theorem LvF.fx (l : LvF K TT C H0 H f c q pm pd ms b sg kvs p) (s : Fx f c H H') : LvF K TT C H0 H' f c q pm pd ms b sg kvs p :=
  ⟨l.nf, l.nc, fun a o e n => s.1 a o (fun z => by rw [z, l.nf] at e; cases e) (fun z => by rw [z, l.nc] at e; cases e) (l.ext a o e n), tabs_fx l.tabs l.flow s, s.2, l.draft.kl (kl_fx l.flow s), l.rdr.kl (kl_fx l.flow s)⟩
theorem ext_seq {a : Addr} {xs : List V} (s : LamX.ExtN H H') (h : SqL K H a xs) : SqL K H' a xs := by
  rcases h with (h | ⟨o, h⟩) | h
  · exact .inl (.inl (s _ _ h (by intro _ z; cases z)))
  · exact .inl (.inr ⟨o, s _ _ h (by intro _ z; cases z)⟩)
  · exact .inr h
end
end Toy
set_option maxHeartbeats 4000000
namespace Toy
open PySem L2 C8 SX LX
section
variable {P : Program} {w : World} {K : PySem.W.Frag} {mg : Str → Option Value} {base : Heap}
abbrev s_law : Stmt := top 46
abbrev n_law : List Str := ["script", "base", "flow", "signs_here", "draft", "made", "turn", "one", "two", "due", "some", "odd", "deed", "mark"]
theorem sc_law : FnScope n_law ["script"] (fnScope s_law) := fnScope_by (by decide +kernel)
theorem nxt {D : Ends} {σ : L2.St} {H : Hp} (h : D.nx σ H) : tNext D σ H := h
theorem then_led {sg : List Nat} {ms : List (List Nat)} {f : List Nat} {tg : List Nat → Nat → List Nat} (g : Good sg ms f tg) {l1 l2 : List Nat} (o1 : Ov sg l1) : thenD ms (ms.map fun m => ledTo tg m l1) (ms.map fun m => ledTo tg m l2) = ms.map fun m => ledTo tg m (l1 ++ l2) := by
  unfold thenD
  rw [List.map_map]
  refine List.map_congr_left fun m hm => ?_
  have h1 := led_in g.htg o1 hm
  have hl := List.idxOf_lt_length_of_mem h1
  show (ms.map fun m => ledTo tg m l2).getD (ms.idxOf (ledTo tg m l1)) [] = _
  rw [List.getD_eq_getElem?_getD, List.getElem?_map, List.getElem?_eq_getElem hl, List.getElem_idxOf]
  show ledTo tg (ledTo tg m l1) l2 = _
  unfold ledTo; rw [List.foldl_append]
theorem then_fst {ms odd : List (List Nat)} (h : ∀ m ∈ odd, m ∈ ms) : thenD ms odd ms = odd := by
  unfold thenD
  have : (odd.map fun m => ms.getD (ms.idxOf m) []) = odd.map fun m => m := List.map_congr_left fun m hm => getD_idx (h m hm)
  rw [this, List.map_id']
theorem fst_then {ms odd : List (List Nat)} (nd : ms.Nodup) (hl : odd.length = ms.length) : thenD ms ms odd = odd := by
  unfold thenD
  refine List.ext_getElem? fun j => ?_
  rw [List.getElem?_map]
  rcases Nat.lt_or_ge j ms.length with h | h
  · rw [List.getElem?_eq_getElem h, List.getElem?_eq_getElem (by omega : j < odd.length)]
    show some (odd.getD (ms.idxOf ms[j]) []) = _
    rw [nd.idxOf_getElem j h, List.getD_eq_getElem?_getD, List.getElem?_eq_getElem (by omega : j < odd.length)]; rfl
  · rw [List.getElem?_eq_none h, List.getElem?_eq_none (by omega : odd.length ≤ j)]; rfl
theorem NamesAt.kl {H H' : Hp} {ps : List Addr} {ms : List (List Nat)} {L : WT} (h : NamesAt H ps ms L) (s : KL H H') : NamesAt H' ps ms L := ⟨h.1, fun i a q e1 e2 => let ⟨u, h1, h2⟩ := h.2 i a q e1 e2; ⟨u, s _ _ h1 (by intro _ z; cases z) (by intro _ z; cases z), s _ _ h2 (by intro _ z; cases z) (by intro _ z; cases z)⟩⟩
theorem tK_get {kf : List Nat → List Key} {L : WT} {i : Nat} {k : List Key} {v : V} (h : (tK kf L)[i]? = some (k, v)) : ∃ q, L[i]? = some q ∧ k = kf q.1 ∧ v = .str (S q.2) := by
  unfold tK at h
  rw [List.getElem?_map] at h
  cases e : L[i]? with
  | none => rw [e] at h; cases h
  | some q => rw [e] at h; cases h; exact ⟨q, rfl, rfl, rfl⟩
theorem namesOf {ms : List (List Nat)} : ∀ {ys : List V}, (∀ (j : Nat) y, ys[j]? = some y → ∃ m ∈ ms, y = .str (S m)) → ∃ od : List (List Nat), od.length = ys.length ∧ (∀ m ∈ od, m ∈ ms) ∧ ys = txs od
  | [], _ => ⟨[], rfl, (fun _ h => nomatch h), rfl⟩
  | y :: ys, h => by
    obtain ⟨m, hm, rfl⟩ := h 0 y rfl
    obtain ⟨od, h1, h2, rfl⟩ := namesOf (ys := ys) fun j z e => h (j + 1) z e
    exact ⟨m :: od, by rw [List.length_cons, List.length_cons, h1], fun x hx => by
      rcases List.mem_cons.mp hx with rfl | hx
      · exact hm
      · exact h2 x hx, rfl⟩
theorem eqv_pr (xs : List (List Nat)) (l : List Nat) : PyData.eqv (.tuple [tD xs, .str (S l)]) (.tuple [tD xs, .str (S l)]) = true := by
  show PyData.eqvAll [tD xs, .str (S l)] [tD xs, .str (S l)] = true
  unfold PyData.eqvAll
  rw [eqv_t]
  simp [PyData.eqvAll, PyData.eqv]
def spLaw (TT : List NdefX.NTab) (K : PySem.W.Frag) : Sp := fun vs H Q _ => ∃ (a : Addr) (ns : List Int), vs = [.ref a] ∧ SqL K H a (ns.map V.int) ∧ ns.length ≤ 63 ∧ NdefX.TabsN TT H ∧ ∀ H', Q (.bl true) H'
theorem ok_law {C : Addr} {TT : List NdefX.NTab} (T : BT mg) (CH : CR K C) (c_flow : Cal P w K mg base 1 "_law_flow" (spFlow K) []) (c_letters : Cal P w K mg base 3 "_law_letters" spLetters []) (c_draft : Cal P w K mg base 3 "_law_draft" (spDraft K) []) (c_lreader : Cal P w K mg base 7 "_law_reader" (spLReader C K) [])
    (c_line : Cal P w K mg base 3 "_law_line" spLine []) (c_act : Cal P w K mg base 2 "act" (spAct C) []) (c_deed : Cal P w K mg base 2 "_law_deed" (spDeed K) []) (c_then : Cal P w K mg base 2 "act_then" (spThen C) []) (c_deeds : Cal P w K mg base 3 "_law_deeds" (spDeeds K) []) (c_acts : Cal P w K mg base 4 "acts" (spActs C TT) [])
    (c_fact : Cal P w K mg base 1 "first_act" (spFact C) []) (c_anyof : Cal P w K mg base 2 "_law_any_of" (spAny K) [])
    {f : Addr} {fd : FuncData} (F : Def K mg "law" s_law f fd) : FnG P w K mg base 8 f fd ["script"] (spLaw TT K) := by
  refine fnG0 F.fn sc_law (fun vs H Q E h => ?_) (fun cd A ou t0 H vs Q E gd hr h => ?_)
  · obtain ⟨a, ns, rfl, _⟩ := h; rfl
  · obtain ⟨a, ns, rfl, ha, hl, hT, kk⟩ := h
    refine ⟨_, (pss_cons (ps_for PassesOwn.never rfl (pi_range1 (by rfl) T.m_range (pa_cons (pe_callB (call_max2 rfl) (by rfl) T.m_max PyProof.Rows.boot_max (pa_cons pe_int (pa_cons (pe_callB (call_min2 rfl) (by rfl) T.m_min PyProof.Rows.boot_min (pa_cons pe_int (pa_cons (pe_callB (lenK K) (by rfl) T.m_len PySem.boot_len (pa_cons (pv 0) pa_nil)) pa_nil))) pa_nil))) pa_nil)) (pg_name (i := 1) sc_law.nd rfl (.inl rfl)) 
        (pss_cons (ps_set (i := 2) sc_law.nd rfl (.inr rfl) (pe_c c_flow hr (by first | decide | omega) (by rfl) (pa_cons (pv 0) (pa_cons (pv 1) pa_nil))))
        (pss_cons (ps_set (i := 3) sc_law.nd rfl (.inl rfl) (pe_c c_letters hr (by first | decide | omega) (by rfl) (pa_cons (pv 2) (pa_cons pe_int pa_nil))))
        (pss_cons (ps_set (i := 4) sc_law.nd rfl (.inr rfl) (pe_c c_draft hr (by first | decide | omega) (by rfl) (pa_cons (pv 2) (pa_cons (pv 3) (pa_cons (pe_op op_sub pe_int (pe_callTy call_int1 (by rfl) T.m_int PyProof.Rows.boot_int (pa_cons (pe_cmpR op_gt (pe_callB call_len_str (by rfl) T.m_len PySem.boot_len (pa_cons (pv 3) pa_nil)) pe_int (nomark _)) pa_nil))) pa_nil)))))
        (pss_cons (ps_set (i := 5) sc_law.nd rfl (.inl rfl) (pe_c c_lreader hr (by first | decide | omega) (by rfl) (pa_cons (pv 3) (pa_cons (pv 4) pa_nil))))
        (pss_cons (ps_for PassesOwn.never rfl (pi_range1 (by rfl) T.m_range (pa_cons pe_int pa_nil)) (pg_name (i := 6) sc_law.nd rfl (.inl rfl)) 
          (pss_cons (ps_par (i := 7) (j := 8) rfl sc_law.nd rfl rfl (by decide) rfl rfl (pa_cons (pe_c c_line hr (by first | decide | omega) (by rfl) (pa_cons (pv 2) (pa_cons (pv 3) (pa_cons pe_int pa_nil)))) (pa_cons (pe_c c_line hr (by first | decide | omega) (by rfl) (pa_cons (pv 2) (pa_cons (pv 3) (pa_cons pe_int pa_nil)))) pa_nil)) rfl)
          (pss_cons (ps_if (PW.pt (pw_or (pt_cmpR (op_neSs hr) (pe_c c_act hr (by first | decide | omega) (by rfl) (pa_cons (pv 5) (pa_cons (pv 7) pa_nil))) (pe_c c_deed hr (by first | decide | omega) (by rfl) (pa_cons (pv 4) (pa_cons (pv 7) pa_nil))) (nomark _)) (pw_or1 (pt_cmpR (op_neSs hr) (pe_c c_act hr (by first | decide | omega) (by rfl) (pa_cons (pv 5) (pa_cons (pe_op op_add_str (pv 7) (pv 8)) pa_nil))) (pe_c c_deed hr (by first | decide | omega) (by rfl) (pa_cons (pv 4) (pa_cons (pe_op op_add_str (pv 7) (pv 8)) pa_nil))) (nomark _))))) 
            (pss_one (ps_ret pe_bl)
            )
           pss_nil)
          (pss_one (ps_if (pt_cmpR (op_neSs hr) (pe_c c_then hr (by first | decide | omega) (by rfl) (pa_cons (pv 5) (pa_cons (pe_c c_act hr (by first | decide | omega) (by rfl) (pa_cons (pv 5) (pa_cons (pv 7) pa_nil))) (pa_cons (pe_c c_act hr (by first | decide | omega) (by rfl) (pa_cons (pv 5) (pa_cons (pv 8) pa_nil))) pa_nil)))) (pe_c c_act hr (by first | decide | omega) (by rfl) (pa_cons (pv 5) (pa_cons (pe_op op_add_str (pv 7) (pv 8)) pa_nil))) (nomark _)) 
            (pss_one (ps_ret pe_bl)
            )
           pss_nil)
          ))))
        (pss_cons (ps_set (i := 9) sc_law.nd rfl (.inr rfl) (pe_c c_deeds hr (by first | decide | omega) (by rfl) (pa_cons (pv 4) (pa_cons (pv 3) pa_nil))))
        (pss_cons (ps_set (i := 10) sc_law.nd rfl (.inl rfl) (pe_callTy (tupleK K) (by rfl) T.m_tuple PyProof.Rows.boot_tuple (pa_cons (pe_lock (pe_lc (own := [("deed", 12)]) rfl sc_law.nd (pi_keys (pv 9)) (blkOk_by (N := n_law) (sc := fnScope s_law) (by decide +kernel)) (fun _ _ _ _ _ => (pg_name (i := 12) sc_law.nd rfl (.inl rfl))) (fun _ _ _ _ _ => pts_nil) (fun _ _ _ _ _ => (pe_tup (pa_cons (pv 12) (pa_cons (pe_dget (hu_of hr) (pv 9) (pv 12) (fun _ _ => rfl)) pa_nil)))))) pa_nil)))
        (pss_cons (ps_if (PW.pt (pw_or (pt_cmpR op_ne (pe_callB (call_reprF gd hr K) (by rfl) T.m_repr PyProof.Rows.boot_repr (pa_cons (pe_c c_acts hr (by first | decide | omega) (by rfl) (pa_cons (pv 5) pa_nil)) pa_nil)) (pe_callB (call_reprF gd hr K) (by rfl) T.m_repr PyProof.Rows.boot_repr (pa_cons (pv 10) pa_nil)) (nomark _)) (pw_or1 (pt_cmpR (op_neSs hr) (pe_c c_fact hr (by first | decide | omega) (by rfl) (pa_cons (pv 5) pa_nil)) (pe_ix (ixt K) (pv 4) pe_int (fun _ _ => rfl)) (nomark _))))) 
          (pss_one (ps_ret pe_bl)
          )
         pss_nil)
        (pss_cons (ps_if (pt_cmpR (op_neDK K hr) (pe_ix (ixt K) (pe_c c_acts hr (by first | decide | omega) (by rfl) (pa_cons (pv 5) pa_nil)) pe_int (fun _ _ => rfl)) (pe_tup (pa_cons (pe_c c_fact hr (by first | decide | omega) (by rfl) (pa_cons (pv 5) pa_nil)) (pa_cons pe_str pa_nil))) (nomark _)) 
          (pss_one (ps_ret pe_bl)
          )
         pss_nil)
        (pss_cons (ps_set (i := 11) sc_law.nd rfl (.inl rfl) (pe_callTy (tupleK K) (by rfl) T.m_tuple PyProof.Rows.boot_tuple (pa_cons (pe_lc (own := [("mark", 13)]) rfl sc_law.nd (pi_tup (pe_ix (ixt K) (pv 4) pe_int (fun _ _ => rfl))) (blkOk_by (N := n_law) (sc := fnScope s_law) (by decide +kernel)) (fun _ _ _ _ _ => (pg_name (i := 13) sc_law.nd rfl (.inl rfl))) (fun _ _ _ _ _ => pts_nil) (fun _ _ _ _ _ => (pe_c c_anyof hr (by first | decide | omega) (by rfl) (pa_cons (pv 2) (pa_cons (pe_ix (ixt K) (pv 4) pe_int (fun _ _ => rfl)) pa_nil))))) pa_nil)))
        (pss_one (ps_if (PW.pt (pw_or (pt_cmpR (op_neSs hr) (pe_c c_then hr (by first | decide | omega) (by rfl) (pa_cons (pv 5) (pa_cons (pv 11) (pa_cons (pe_c c_fact hr (by first | decide | omega) (by rfl) (pa_cons (pv 5) pa_nil)) pa_nil)))) (pv 11) (nomark _)) (pw_or1 (pt_cmpR (op_neSs hr) (pe_c c_then hr (by first | decide | omega) (by rfl) (pa_cons (pv 5) (pa_cons (pe_c c_fact hr (by first | decide | omega) (by rfl) (pa_cons (pv 5) pa_nil)) (pa_cons (pv 11) pa_nil)))) (pv 11) (nomark _))))) 
          (pss_one (ps_ret pe_bl)
          )
         pss_nil)
        ))))))))))))
      (pss_one (ps_ret pe_bl)
      )), ?_⟩
    refine ⟨_, rfl, a, _, rfl, .inl ha, _, _, rfl, _, _, rfl, _, rfl, ?_⟩
    rw [List.length_map]
    have hM : 0 ≤ (if (if (ns.length : Int) < 3 then (ns.length : Int) else 3) > 1 then (if (ns.length : Int) < 3 then (ns.length : Int) else 3) else 1) ∧ (if (if (ns.length : Int) < 3 then (ns.length : Int) else 3) > 1 then (if (ns.length : Int) < 3 then (ns.length : Int) else 3) else 1) ≤ 3 := by
      split <;> split <;> omega
    generalize (if (if (ns.length : Int) < 3 then (ns.length : Int) else 3) > 1 then (if (ns.length : Int) < 3 then (ns.length : Int) else 3) else 1) = M at hM ⊢
    refine ⟨by omega, by omega, ?_⟩
    refine for_it (walk_range (lo := 0)) (fun i σ H' => (∃ s1 s2 s3 s4 s5 s6 s7 s8 s9 s10 s11 s12 s13 : Option V, σ = [some (.ref a), s1, s2, s3, s4, s5, s6, s7, s8, s9, s10, s11, s12, s13]) ∧ LamX.ExtN H H' ∧ NdefX.TabsN TT H')
      ⟨⟨_, _, _, _, _, _, _, _, _, _, _, _, _, rfl⟩, LamX.ExtN.refl _, hT⟩ (fun _ _ _ _ _ => trivial) ?_ ?_
    · rintro i x σ H1 H1' hi ⟨⟨s1, s2, s3, s4, s5, s6, s7, s8, s9, s10, s11, s12, s13, rfl⟩, e1, hT1⟩ ⟨rfl, rfl⟩
      have hi3 : i < 3 := by omega
      clear hi hM
      refine ⟨_, rfl, _, rfl, a, i, ns, by show [V.ref a, V.int (0 + (i : Int))] = _; rw [Int.zero_add], ext_seq e1 ha, hl, by omega, fun fl c H2 h2 nf nc hfl => ?_⟩
      refine ⟨_, rfl, fl, c, 3, rfl, hfl, by decide, by decide, fun sg H3 hsg hlen hB3 => ?_⟩
      have hs1 := hsg.2.1
      have hs3 := hsg.2.2.1
      refine ⟨_, rfl, _, rfl, _, rfl, S sg, rfl, by rw [S_len]; exact le1000 (by omega), _, _, rfl, rfl, .inr ⟨_, rfl, _, _, rfl, rfl, fl, c, sg, (if 2 < sg.length then 3 else 4), ?_, hB3.2, by omega, by omega, by split <;> omega, by split <;> omega, fun q pm pd ms b kvs H4 hB4 nq npm npd hd hml => ?_⟩⟩
      · rw [S_len]
        by_cases h : 2 < sg.length
        · have h' : (2 : Int) < (sg.length : Nat) := by omega
          simp [h, h']
        · have h' : ¬ (2 : Int) < (sg.length : Nat) := by omega
          simp [h, h']
      have h4 : ms.length ≤ 4 := by split at hml <;> omega
      clear hml
      refine ⟨_, rfl, _, rfl, q, pm, pd, ms, b, sg, kvs, rfl, hd, hsg, fun p H5 s5 np hr5 => ?_⟩
      have hgd := hd.good hsg
      have L5 : LvF K TT C _ H5 fl c q pm pd ms b sg kvs p := ⟨nf, nc, (fun a o e n => s5 a o ((hB3.trans hB4).1 a o (fun z => by rw [z, nf] at e; cases e) (fun z => by rw [z, nc] at e; cases e) (h2 a o e))), ((tabs_fx (hT1.ext h2) hfl (hB3.trans hB4)).ext s5), flow_same hB4.2 s5, hd.same s5, hr5⟩
      clear hr5 np s5 hd npd npm nq hB4 hB3 hfl nf nc h2 hT1
      have hD : ∀ l, deedD kvs ms l = ms.map fun m => ledTo (tgD kvs) m l := fun _ => rfl
      have hled : ∀ {l}, Ov sg l → ∀ x ∈ (ms.map fun m => ledTo (tgD kvs) m l), x ∈ ms := fun {l} ho x hx => by
        obtain ⟨m, hm, rfl⟩ := List.mem_map.mp hx
        exact led_in hgd.htg ho hm
      refine ⟨5, rfl, by decide, by decide, for_it (walk_range (lo := 0)) (fun j σ H' => (∃ s6 s7 s8 s9 s10 s11 s12 s13 : Option V, σ = [some (.ref a), some (.int (0 + (i : Int))), some (.ref fl), some (.str (S sg)), some (.ref q), some (.ref p), s6, s7, s8, s9, s10, s11, s12, s13]) ∧ LvF K TT C _ H' fl c q pm pd ms b sg kvs p)
        ⟨⟨_, _, _, _, _, _, _, _, rfl⟩, L5⟩ (fun _ _ _ _ _ => trivial) ?_ ?_⟩
      · clear s1 s2 s3 s4 s6 s7 s8 s9 s10 s11 s12 s13 L5 H5
        rintro j x σ H5 H5' hj ⟨⟨s6, s7, s8, s9, s10, s11, s12, s13, rfl⟩, L5⟩ ⟨rfl, rfl⟩
        refine ⟨_, rfl, _, rfl, fl, c, sg, 9, rfl, L5.flow, hs1, hs3, by decide, fun l1 H6 o1 n1 hB6 => ?_⟩
        have L6 := L5.fx hB6
        refine ⟨_, rfl, _, rfl, fl, c, sg, 9, rfl, L6.flow, hs1, hs3, by decide, fun l2 H7 o2 n2 hB7 => ?_⟩
        have L7 := L6.fx hB7
        refine ⟨_, _, rfl, ?_⟩
        clear L6 hB6 hB7 L5
        have o12 : Ov sg (l1 ++ l2) := fun d hd => by
          rcases List.mem_append.mp hd with h | h
          · exact o1 d h
          · exact o2 d h
        have n12 : (l1 ++ l2).length ≤ 1000 := by rw [List.length_append]; omega
        refine ⟨_, rfl, _, rfl, p, sg, ms, b, tgD kvs, l1, rfl, L7.rdr, hgd, o1, by omega, fun u1 H8 s8' hu1 => ?_⟩
        have L8 := L7.same s8'
        refine ⟨_, rfl, _, rfl, q, pm, pd, ms, b, sg, kvs, l1, rfl, L8.draft, o1, fun u2 H9 s9' hn2 hu2 => ?_⟩
        have L9 := L8.same s9'
        refine ⟨u1, u2, _, _, rfl, rfl, .inr ⟨SqT.of (s9' _ _ hu1), SqT.of hu2⟩, hgd.subS (hled o1), hgd.subS (hled o1), _, rfl, iteN (by rw [hD]; simp) ?_⟩
        clear hu2 hn2 hu1 s9' s8' L8 L7
        have bnd : (S l1).length + (S l2).length ≤ sizeLine := by rw [S_len, S_len]; exact sz (m := 1000) (by omega) (by decide)
        refine ⟨_, rfl, _, rfl, _, rfl, S l1, S l2, rfl, rfl, bnd, ?_⟩
        rw [S_cat]
        refine ⟨p, sg, ms, b, tgD kvs, l1 ++ l2, rfl, L9.rdr, hgd, o12, n12, fun u1 H10 s10' hu1 => ?_⟩
        have L10 := L9.same s10'
        refine ⟨_, rfl, _, rfl, _, rfl, S l1, S l2, rfl, rfl, bnd, ?_⟩
        rw [S_cat]
        refine ⟨q, pm, pd, ms, b, sg, kvs, l1 ++ l2, rfl, L10.draft, o12, fun u2 H11 s11' hn2 hu2 => ?_⟩
        have L11 := L10.same s11'
        refine ⟨u1, u2, _, _, rfl, rfl, .inr ⟨SqT.of (s11' _ _ hu1), SqT.of hu2⟩, hgd.subS (hled o12), hgd.subS (hled o12), _, rfl, iteN (by rw [hD]; simp) ?_⟩
        clear hu2 hn2 hu1 s11' s10' L10 L9
        refine nxt ?_
        dsimp only
        refine ⟨_, rfl, _, rfl, _, rfl, p, sg, ms, b, tgD kvs, l1, rfl, L11.rdr, hgd, o1, by omega, fun v1 H12 s12' hv1 => ?_⟩
        have L12 := L11.same s12'
        refine ⟨_, rfl, _, rfl, p, sg, ms, b, tgD kvs, l2, rfl, L12.rdr, hgd, o2, by omega, fun v2 H13 s13' hv2 => ?_⟩
        have L13 := L12.same s13'
        refine ⟨p, v1, v2, sg, ms, b, tgD kvs, _, _, rfl, L13.rdr, hgd.hnd, s13' _ _ hv1, hv2, hled o1, by rw [List.length_map], by rw [List.length_map]; omega, fun v3 H14 s14' hv3 => ?_⟩
        have L14 := L13.same s14'
        refine ⟨_, rfl, _, rfl, _, rfl, S l1, S l2, rfl, rfl, bnd, ?_⟩
        rw [S_cat]
        refine ⟨p, sg, ms, b, tgD kvs, l1 ++ l2, rfl, L14.rdr, hgd, o12, n12, fun v4 H15 s15' hv4 => ?_⟩
        rw [then_led hgd o1] at hv3
        refine ⟨v3, v4, _, _, rfl, rfl, .inr ⟨SqT.of (s15' _ _ hv3), SqT.of hv4⟩, hgd.subS (hled o12), hgd.subS (hled o12), _, rfl, iteN (by simp) ?_⟩
        exact ⟨⟨_, _, _, _, _, _, _, _, rfl⟩, L14.same s15'⟩
      · clear s1 s2 s3 s4 s6 s7 s8 s9 s10 s11 s12 s13 L5 H5
        rintro σ H5 ⟨⟨s6, s7, s8, s9, s10, s11, s12, s13, rfl⟩, L5⟩
        refine ⟨_, rfl, _, rfl, q, pm, pd, ms, b, sg, kvs, rfl, L5.draft, hsg, h4, fun du H6 s6' ndu hdu => ?_⟩
        have L6 := L5.same s6'
        clear s6' ndu L5
        have hW : TOk ms.length (actsW sg ms (tgD kvs)) := walkT_ok range_ok (leadN_ok hgd.htg rfl)
        have hWl := hW.len h4
        have kinj : ∀ {f : List Nat}, Tn ms.length f → ∀ p ∈ (actsW sg ms (tgD kvs)), kN ms p.1 = kN ms f → p.1 = f := fun hf p hp e => kN_inj hgd.hnd (hW.mem p hp).2 hf.2 e
        refine ⟨du, _, hdu, trivial, fun od => ?_⟩
        have hduF : (upd H6 du (.frz od (.dT (tK (kN ms) (actsW sg ms (tgD kvs)))))) du = some (.frz od (.dT (tK (kN ms) (actsW sg ms (tgD kvs))))) := upd_same
        have kF : ∀ b o, b ≠ du → H6 b = some o → (upd H6 du (.frz od (.dT (tK (kN ms) (actsW sg ms (tgD kvs)))))) b = some o := fun b o n e => by rw [upd_ne n]; exact e
        generalize upd H6 du (.frz od (.dT (tK (kN ms) (actsW sg ms (tgD kvs))))) = HF at hduF kF ⊢
        refine ⟨_, rfl, du, od, rfl, .inr ⟨_, hduF, fun D hD => ?_⟩⟩
        refine lc_keepH keep_same (walk_keysT (d := du) (o := od) (kvs := tK (kN ms) (actsW sg ms (tgD kvs)))) hD (by rw [tK_len]; exact small1000 (by omega)) (fun j y H => ∃ t, y = .ref t ∧ ∀ q, (actsW sg ms (tgD kvs))[j]? = some q → ∃ u, H t = some (.tup [.ref u, .str (S q.2)]) ∧ H u = some (.tup (txs (nmT ms q.1)))) (fun H r => r _ _ hduF)
          (fun _ _ _ _ _ r ⟨t, e, h⟩ => ⟨t, e, fun q hq => let ⟨u, h1, h2⟩ := h q hq; ⟨u, r _ _ h1, r _ _ h2⟩⟩) (fun _ _ _ _ _ _ hDa ⟨t, e, h⟩ => ⟨t, e, fun q hq => by
            obtain ⟨u, h1, h2⟩ := h q hq
            exact ⟨u, by rw [upd_ne (ne_of h1 hDa (by intro h; cases h))]; exact h1, by rw [upd_ne (ne_of h2 hDa (by intro h; cases h))]; exact h2⟩⟩) (fun j x H7 H7' acc R hj r hDa hy hR => ?_) (fun ys H7 hly hg r7 hDs => ?_)
        · obtain ⟨rfl, k, v, uq, hk, rfl, huq⟩ := hy
          obtain ⟨q', hq', rfl, rfl⟩ := tK_get hk
          refine ⟨rfl, ?_⟩
          refine ⟨_, rfl, _, rfl, _, rfl, du, _, rfl, .inr ⟨_, kN ms q'.1, uq, .inr ⟨od, r _ _ hduF⟩, rfl, huq, (tK_some (kinj (hW.mem _ (List.mem_of_getElem? hq'))) hW.nd (List.mem_of_getElem? hq')).symm⟩, (by show 2 ≤ sizeLine; decide), fun t ht => ?_⟩
          exact hR _ _ (sm_new ht) ⟨t, rfl, fun q2 h => by rw [hq'] at h; cases h; exact ⟨uq, upd_same, sm_new ht _ _ (by rw [← kN_txs]; exact huq)⟩⟩
        rw [tK_len] at hly
        refine ⟨r7 _ _ hduF, ?_⟩
        obtain ⟨qs, rfl⟩ := refs_of fun j y e => let ⟨t, e', _⟩ := hg j y e; ⟨t, e'⟩
        have s68 : Same H6 (upd H7 du (.dT (tK (kN ms) (actsW sg ms (tgD kvs))))) := fun b o e => by
          by_cases z : b = du
          · rw [z, hdu] at e; cases e; rw [z]; exact upd_same
          · rw [upd_ne z]; exact r7 _ _ (kF b o z e)
        have k8 : ∀ b o, H7 b = some o → (∀ u, o ≠ .frz od u) → (upd H7 du (.dT (tK (kN ms) (actsW sg ms (tgD kvs))))) b = some o := fun b o e n => by
          rw [upd_ne (fun z => by rw [z, r7 _ _ hduF] at e; cases e; exact n _ rfl)]; exact e
        have hD8 := k8 _ _ hDs (by intro _ z; cases z)
        have hN8 : NamesAt (upd H7 du (.dT (tK (kN ms) (actsW sg ms (tgD kvs))))) qs ms (actsW sg ms (tgD kvs)) := ⟨by rw [← hly, List.length_map], fun j a q' h1 h2 => by
          obtain ⟨t, e, h⟩ := hg j (.ref a) (refs_get h1)
          cases e
          obtain ⟨u, h1, h2⟩ := h q' h2
          exact ⟨u, k8 _ _ h1 (by intro _ z; cases z), k8 _ _ h2 (by intro _ z; cases z)⟩⟩
        have L8 := L6.same s68
        generalize upd H7 du (.dT (tK (kN ms) (actsW sg ms (tgD kvs)))) = H8 at hD8 hN8 L8 ⊢
        clear k8 s68 hg hDs hly r7 hduF kF L6 hdu
        refine nil1 ⟨D, _, rfl, .inl ⟨SqL.of hD8, fun so hso => ?_⟩⟩
        have s9' : Same H8 (upd H8 so (.tup (qs.map V.ref))) := sm_new hso
        have hso9 : (upd H8 so (.tup (qs.map V.ref))) so = some (.tup (qs.map V.ref)) := upd_same
        have L9 := L8.same s9'
        have hN9 := hN8.kl (kl_same s9')
        generalize upd H8 so (.tup (qs.map V.ref)) = H9 at hso9 L9 hN9 ⊢
        clear s9' hso hD8 hN8 L8
        have hfit := (acts_fit hgd h4).1
        refine ⟨_, rfl, p, sg, ms, b, tgD kvs, rfl, L9.rdr, hgd, h4, L9.tabs, fun pa ps H10 e10 hT10 hpa hna => ?_⟩
        have L10 := L9.more e10 hT10
        have hso10 := e10 _ _ hso9 (by intro _ z; cases z)
        have hN10 := hN9.kl (kl_ext e10)
        refine ⟨pa, _, 6, 131840, rfl, dp_ac hpa hna, hfit, by decide, by decide, ?_⟩
        refine ⟨_, rfl, so, _, 6, 131840, rfl, dp_ac hso10 hN10, hfit, by decide, by decide, ?_⟩
        refine ⟨rfl, _, rfl, iteN (by simp) ?_⟩
        refine ⟨_, rfl, p, sg, ms, b, tgD kvs, rfl, L10.rdr, fun m hm => ?_⟩
        refine ⟨_, rfl, q, _, 0, _, rfl, rfl, SqT.of L10.draft.top, rfl, m, pm, ms, ms, rfl, rfl, .inr ⟨SqT.of hm, SqT.of L10.draft.marks⟩, hgd.small, hgd.small, _, rfl, iteN (by simp) ?_⟩
        clear hm hN10 hso10 hpa hna e10 hT10 L9 hN9 hso9
        refine nxt ?_
        dsimp only
        refine ⟨_, rfl, p, sg, ms, b, tgD kvs, rfl, L10.rdr, hgd, h4, L10.tabs, fun pa ps H11 e11 hT11 hpa hna => ?_⟩
        have L11 := L10.more e11 hT11
        have hp0 : 0 < ps.length := by rw [hna.1]; exact (List.getElem?_eq_some_iff.mp acts_fst).1
        obtain ⟨u0, hu1, hu2⟩ := hna.2 0 ps[0] _ (List.getElem?_eq_getElem hp0) acts_fst
        rw [nmT_range hgd.hnd] at hu2
        refine ⟨pa, _, 0, .ref ps[0], rfl, rfl, SqT.of hpa, at_first (refs_get (List.getElem?_eq_getElem hp0)), ?_⟩
        refine ⟨_, rfl, p, sg, ms, b, tgD kvs, rfl, L11.rdr, fun m hm => ?_⟩
        refine ⟨(by show 2 ≤ sizeLine; decide), fun t ht => ?_⟩
        have s12' : Same H11 (upd H11 t (.tup [.ref m, .str (Str.ofString "")])) := sm_new ht
        have hfit0 : Fit 4 514 (.tuple [tD ms, .str (S [])]) := by
          have := (acts_fit hgd h4).2 _ (List.mem_of_getElem? acts_fst)
          rw [nmT_range hgd.hnd] at this; exact this
        refine ⟨.tuple [tD ms, .str (S [])], .tuple [tD ms, .str (S [])], .tup (SqT.of (s12' _ _ hu1)) (.cons (dp_t (SqT.of (s12' _ _ hu2))) (.cons (.str _) .nil)), .tup (SqT.of (by rw [upd_same, s_nil])) (.cons (dp_t (SqT.of (s12' _ _ hm))) (.cons (.str _) .nil)), hfit0.shaped (by decide) (.inl ⟨_, rfl⟩), hfit0.shaped (by decide) (.inl ⟨_, rfl⟩), _, rfl, iteN (by rw [eqv_pr]; rfl) ?_⟩
        have L12 := L11.same s12'
        generalize upd H11 t (.tup [.ref m, .str (Str.ofString "")]) = H12 at L12 ⊢
        clear s12' hm ht hu1 hu2 hp0 hna hpa L11 e11 hT11 L10
        refine nxt ?_
        dsimp only
        have hpm : pm ≠ fl ∧ pm ≠ c := flow_lst L12.flow L12.draft.marks (by intro _ z; cases z)
        refine ⟨_, rfl, q, _, 0, _, rfl, rfl, SqT.of L12.draft.top, rfl, pm, rfl, ⟨_, SqT.of L12.draft.marks⟩, fun D2 hD2 => ?_⟩
        refine lc_keep (keep_fx L12.flow) (walk_tup (K := K) (a := pm) (xs := txs ms)) hD2 (by rw [txs_len]; exact small1000 (by omega)) (fun _ y => ∃ m ∈ ms, y = .str (S m)) (fun H r => SqT.of ((L12.fx r).draft.marks)) (fun j x H13 H13' R hj r hy hR => ?_) (fun ys H13 hly hg r hDs => ?_)
        · obtain ⟨rfl, e⟩ := hy
          have L13 := L12.fx r
          refine ⟨rfl, ?_⟩
          refine ⟨_, rfl, _, rfl, q, _, 0, _, rfl, rfl, SqT.of L13.draft.top, rfl, fl, c, .ref pm, txs ms, rfl, L13.flow, (fun z e => by cases e; exact hpm), .inl ⟨pm, rfl, .inr (SqT.of L13.draft.marks)⟩, by rw [txs_len]; exact hgd.h1, by rw [txs_len]; omega, fun v H14 hv hB14 => ?_⟩
          refine hR _ _ hB14 ?_
          unfold txs at hv
          obtain ⟨m, hm, rfl⟩ := List.mem_map.mp hv
          exact ⟨m, hm, rfl⟩
        obtain ⟨odd, hol, hom, rfl⟩ := namesOf hg
        rw [hly, txs_len] at hol
        have L13 := L12.fx r
        refine nil1 ⟨D2, _, rfl, .inl ⟨SqL.of hDs, fun ot hot => ?_⟩⟩
        have s14' : Same H13 (upd H13 ot (.tup (txs odd))) := sm_new hot
        have hot14 : (upd H13 ot (.tup (txs odd))) ot = some (.tup (txs odd)) := upd_same
        have L14 := L13.same s14'
        generalize upd H13 ot (.tup (txs odd)) = H14 at hot14 L14 ⊢
        clear s14' hot hDs hg hly L13 r hD2 L12
        refine ⟨_, rfl, _, rfl, _, rfl, p, sg, ms, b, tgD kvs, rfl, L14.rdr, fun m hm => ?_⟩
        refine ⟨p, ot, m, sg, ms, b, tgD kvs, odd, ms, rfl, L14.rdr, hgd.hnd, hot14, hm, hom, rfl, by omega, fun u1 H15 s15' hu1 => ?_⟩
        rw [then_fst hom] at hu1
        refine ⟨_, rfl, u1, ot, odd, odd, rfl, rfl, .inr ⟨SqT.of hu1, SqT.of (s15' _ _ hot14)⟩, hgd.subS hom, hgd.subS hom, _, rfl, iteN (by simp) ?_⟩
        have L15 := L14.same s15'
        have hot15 := s15' _ _ hot14
        clear hu1 hm s15' hot14 L14
        refine ⟨_, rfl, _, rfl, p, sg, ms, b, tgD kvs, rfl, L15.rdr, fun m hm => ?_⟩
        refine ⟨_, rfl, p, m, ot, sg, ms, b, tgD kvs, ms, odd, rfl, L15.rdr, hgd.hnd, hm, hot15, (fun _ h => h), hol, by omega, fun u2 H16 s16' hu2 => ?_⟩
        rw [fst_then hgd.hnd hol] at hu2
        refine ⟨_, rfl, u2, ot, odd, odd, rfl, rfl, .inr ⟨SqT.of hu2, SqT.of (s16' _ _ hot15)⟩, hgd.subS hom, hgd.subS hom, _, rfl, iteN (by simp) ?_⟩
        have L16 := L15.same s16'
        exact ⟨⟨_, _, _, _, _, _, _, _, _, _, _, _, _, rfl⟩, e1.trans L16.ext, L16.tabs⟩
    · rintro σ H1 ⟨⟨s1, s2, s3, s4, s5, s6, s7, s8, s9, s10, s11, s12, s13, rfl⟩, e1, hT1⟩
      exact kk _
end
end Toy
set_option maxHeartbeats 8000000
namespace Toy
open PySem L2 C8 SX LX
theorem no_names {K : PySem.W.Frag} {N : Addr} {od : Option Addr} {n : Nat} {sl : Array (Option Value)} {u0 u1 u2 u3 u4 u5 u6 u7 u8 u9 : Tok}
    (h : K.lookup N = some ⟨.type "tuple", od, .seq #[.str (Str.ofString "back") u0, .str (Str.ofString "is") u1, .str (Str.ofString "not") u2, .str (Str.ofString "and") u3, .str (Str.ofString "or") u4, .str (Str.ofString "if") u5, .str (Str.ofString "then") u6, .str (Str.ofString "for") u7, .str (Str.ofString "all") u8, .str (Str.ofString "some") u9] n, sl⟩) (H : Hp) : SqT K H N (txs no10) := by
  refine .inr ⟨_, _, _, h, rfl, rfl, (by show 10 ≤ sizeLine; decide), ?_⟩
  have e0 : (Str.ofString "back") = S [98, 97, 99, 107] := by decide +kernel
  have e1 : (Str.ofString "is") = S [105, 115] := by decide +kernel
  have e2 : (Str.ofString "not") = S [110, 111, 116] := by decide +kernel
  have e3 : (Str.ofString "and") = S [97, 110, 100] := by decide +kernel
  have e4 : (Str.ofString "or") = S [111, 114] := by decide +kernel
  have e5 : (Str.ofString "if") = S [105, 102] := by decide +kernel
  have e6 : (Str.ofString "then") = S [116, 104, 101, 110] := by decide +kernel
  have e7 : (Str.ofString "for") = S [102, 111, 114] := by decide +kernel
  have e8 : (Str.ofString "all") = S [97, 108, 108] := by decide +kernel
  have e9 : (Str.ofString "some") = S [115, 111, 109, 101] := by decide +kernel
  rw [e0, e1, e2, e3, e4, e5, e6, e7, e8, e9]
  exact .cons ⟨_, rfl⟩ (.cons ⟨_, rfl⟩ (.cons ⟨_, rfl⟩ (.cons ⟨_, rfl⟩ (.cons ⟨_, rfl⟩ (.cons ⟨_, rfl⟩ (.cons ⟨_, rfl⟩ (.cons ⟨_, rfl⟩ (.cons ⟨_, rfl⟩ (.cons ⟨_, rfl⟩ .nil)))))))))
def ttOf (tt : List (Addr × Addr)) : List NdefX.NTab := tt.map fun p => (p.2, fun _ _ => ("_act_lead.<locals>.lead" : Str))
theorem all_mk {l : PySem.W.OpenLaw} {qp : Program} {w : World} {K : PySem.W.Frag} {h : Heap} {mg : Str → Option Value} {fa : Addr} {f_flow f_less f_anyof f_shaken f_letters f_draft f_lreader f_leads f_deed f_line f_deeds f_isseq f_isrow f_isletters f_issigns f_isname f_ismarks f_istargets f_issteps f_m_num f_table f_cols f_init f_m_nled f_marksat f_act f_fact f_then f_until f_never f_walked f_actlead f_acts f_law C_Reader : Addr} (X : K.In h) (G : h.Ns mainGlobals mg) (hfa : mg "law" = some (.ref fa))
    {od_flow an_flow : Option Addr} {sl_flow : Array (Option Value)} {oc_flow kV_flow dc_flow pm_flow cd_flow ct_flow : Value}
    {od_less an_less : Option Addr} {sl_less : Array (Option Value)} {oc_less kV_less dc_less pm_less cd_less ct_less : Value}
    {od_anyof an_anyof : Option Addr} {sl_anyof : Array (Option Value)} {oc_anyof kV_anyof dc_anyof pm_anyof cd_anyof ct_anyof : Value}
    {od_shaken an_shaken : Option Addr} {sl_shaken : Array (Option Value)} {oc_shaken kV_shaken dc_shaken pm_shaken cd_shaken ct_shaken : Value}
    {od_letters an_letters : Option Addr} {sl_letters : Array (Option Value)} {oc_letters kV_letters dc_letters pm_letters cd_letters ct_letters : Value}
    {od_draft an_draft : Option Addr} {sl_draft : Array (Option Value)} {oc_draft kV_draft dc_draft pm_draft cd_draft ct_draft : Value}
    {od_lreader an_lreader : Option Addr} {sl_lreader : Array (Option Value)} {oc_lreader kV_lreader dc_lreader pm_lreader cd_lreader ct_lreader : Value}
    {od_leads an_leads : Option Addr} {sl_leads : Array (Option Value)} {oc_leads kV_leads dc_leads pm_leads cd_leads ct_leads : Value}
    {od_deed an_deed : Option Addr} {sl_deed : Array (Option Value)} {oc_deed kV_deed dc_deed pm_deed cd_deed ct_deed : Value}
    {od_line an_line : Option Addr} {sl_line : Array (Option Value)} {oc_line kV_line dc_line pm_line cd_line ct_line : Value}
    {od_deeds an_deeds : Option Addr} {sl_deeds : Array (Option Value)} {oc_deeds kV_deeds dc_deeds pm_deeds cd_deeds ct_deeds : Value}
    {od_isseq an_isseq : Option Addr} {sl_isseq : Array (Option Value)} {oc_isseq kV_isseq dc_isseq pm_isseq cd_isseq ct_isseq : Value}
    {od_isrow an_isrow : Option Addr} {sl_isrow : Array (Option Value)} {oc_isrow kV_isrow dc_isrow pm_isrow cd_isrow ct_isrow : Value}
    {od_isletters an_isletters : Option Addr} {sl_isletters : Array (Option Value)} {oc_isletters kV_isletters dc_isletters pm_isletters cd_isletters ct_isletters : Value}
    {od_issigns an_issigns : Option Addr} {sl_issigns : Array (Option Value)} {oc_issigns kV_issigns dc_issigns pm_issigns cd_issigns ct_issigns : Value}
    {od_isname an_isname : Option Addr} {sl_isname : Array (Option Value)} {oc_isname kV_isname dc_isname pm_isname cd_isname ct_isname : Value}
    {od_ismarks an_ismarks : Option Addr} {sl_ismarks : Array (Option Value)} {oc_ismarks kV_ismarks dc_ismarks pm_ismarks cd_ismarks ct_ismarks : Value}
    {od_istargets an_istargets : Option Addr} {sl_istargets : Array (Option Value)} {oc_istargets kV_istargets dc_istargets pm_istargets cd_istargets ct_istargets : Value}
    {od_issteps an_issteps : Option Addr} {sl_issteps : Array (Option Value)} {oc_issteps kV_issteps dc_issteps pm_issteps cd_issteps ct_issteps : Value}
    {od_m_num an_m_num : Option Addr} {sl_m_num : Array (Option Value)} {oc_m_num kV_m_num dc_m_num pm_m_num cd_m_num ct_m_num : Value}
    {od_table an_table : Option Addr} {sl_table : Array (Option Value)} {oc_table kV_table dc_table pm_table cd_table ct_table : Value}
    {od_cols an_cols : Option Addr} {sl_cols : Array (Option Value)} {oc_cols kV_cols dc_cols pm_cols cd_cols ct_cols : Value}
    {od_init an_init : Option Addr} {sl_init : Array (Option Value)} {oc_init kV_init dc_init pm_init cd_init ct_init : Value}
    {od_m_nled an_m_nled : Option Addr} {sl_m_nled : Array (Option Value)} {oc_m_nled kV_m_nled dc_m_nled pm_m_nled cd_m_nled ct_m_nled : Value}
    {od_marksat an_marksat : Option Addr} {sl_marksat : Array (Option Value)} {oc_marksat kV_marksat dc_marksat pm_marksat cd_marksat ct_marksat : Value}
    {od_act an_act : Option Addr} {sl_act : Array (Option Value)} {oc_act kV_act dc_act pm_act cd_act ct_act : Value}
    {od_fact an_fact : Option Addr} {sl_fact : Array (Option Value)} {oc_fact kV_fact dc_fact pm_fact cd_fact ct_fact : Value}
    {od_then an_then : Option Addr} {sl_then : Array (Option Value)} {oc_then kV_then dc_then pm_then cd_then ct_then : Value}
    {od_until an_until : Option Addr} {sl_until : Array (Option Value)} {oc_until kV_until dc_until pm_until cd_until ct_until : Value}
    {od_never an_never : Option Addr} {sl_never : Array (Option Value)} {oc_never kV_never dc_never pm_never cd_never ct_never : Value}
    {od_walked an_walked : Option Addr} {sl_walked : Array (Option Value)} {oc_walked kV_walked dc_walked pm_walked cd_walked ct_walked : Value}
    {od_actlead an_actlead : Option Addr} {sl_actlead : Array (Option Value)} {oc_actlead kV_actlead dc_actlead pm_actlead ct_actlead : Value}
    {od_acts an_acts : Option Addr} {sl_acts : Array (Option Value)} {oc_acts kV_acts dc_acts pm_acts cd_acts ct_acts : Value}
    {od_law an_law : Option Addr} {sl_law : Array (Option Value)} {oc_law kV_law dc_law pm_law cd_law ct_law : Value}
    {N_nn : Addr} {od_nn : Option Addr} {n_nn : Nat} {sl_nn : Array (Option Value)} {u0_nn u1_nn u2_nn u3_nn u4_nn u5_nn u6_nn u7_nn u8_nn u9_nn : Tok}
    (tg_nn : PySem.W.nsIn K mainGlobals "_NO_NAMES" = some (some (.ref N_nn)))
    (tl_nn : K.lookup N_nn = some ⟨.type "tuple", od_nn, .seq #[.str (Str.ofString "back") u0_nn, .str (Str.ofString "is") u1_nn, .str (Str.ofString "not") u2_nn, .str (Str.ofString "and") u3_nn, .str (Str.ofString "or") u4_nn, .str (Str.ofString "if") u5_nn, .str (Str.ofString "then") u6_nn, .str (Str.ofString "for") u7_nn, .str (Str.ofString "all") u8_nn, .str (Str.ofString "some") u9_nn] n_nn, sl_nn⟩)
    {cc_actlead PP_actlead : Addr} {oe_actlead : Option Addr} {oc2_actlead : Value} {vs_actlead : Array Value} {sl2_actlead : Array (Option Value)}
    (tr_actlead : ∃ e, (PyProof.Rows.recsOf qp).find? (fun e => e.name == ("_act_lead" : Str)) = some e)
    {tk_az : Tok}
    (q_az : PySem.W.nsIn K mainGlobals "_LETTERS" = some (some (.str (S az) tk_az)))
    (g_Reader : PySem.W.nsIn K mainGlobals "Reader" = some (some (.ref C_Reader)))
    (pg_Reader : PySem.W.plainGet K C_Reader Str.empty = true)
    (hd_Reader : PySem.W.hasDictIn K C_Reader = true)
    (po_Reader : PySem.W.plainOver K C_Reader = true)
    (sa_Reader : PySem.W.findIn K (.ref C_Reader) "__setattr__" = some (some (.builtin "object.__setattr__")))
    (kc_Reader : PySem.W.keepIn K (.ref C_Reader) = true)
    (n_Reader_signs : PySem.W.findIn K (.ref C_Reader) "signs" = some none)
    (n_Reader_marks : PySem.W.findIn K (.ref C_Reader) "marks" = some none)
    (n_Reader_first : PySem.W.findIn K (.ref C_Reader) "first" = some none)
    (n_Reader_steps : PySem.W.findIn K (.ref C_Reader) "steps" = some none)
    (n_Reader__numbers : PySem.W.findIn K (.ref C_Reader) "_numbers" = some none)
    (n_Reader__leads : PySem.W.findIn K (.ref C_Reader) "_leads" = some none)
    (n_Reader__columns : PySem.W.findIn K (.ref C_Reader) "_columns" = some none)
    (mk_Reader : PySem.W.makesIn K C_Reader = true)
    (a_flow : PySem.W.nsIn K mainGlobals "_law_flow" = some (some (.ref f_flow)))
    (l_flow : K.lookup f_flow = some ⟨oc_flow, od_flow, .func (PySem.W.fnOf "_law_flow" "_law_flow" (C8.fnArgs s_flow) (C8.fnBody s_flow) (C8.fnScope s_flow) .none kV_flow dc_flow pm_flow an_flow cd_flow ct_flow), sl_flow⟩)
    (c_flow : PySem.W.codeIn K cd_flow "_law_flow" = true)
    (k_flow : PySem.W.keepIn K (.ref f_flow) = true)
    (a_less : PySem.W.nsIn K mainGlobals "_law_less" = some (some (.ref f_less)))
    (l_less : K.lookup f_less = some ⟨oc_less, od_less, .func (PySem.W.fnOf "_law_less" "_law_less" (C8.fnArgs s_less) (C8.fnBody s_less) (C8.fnScope s_less) .none kV_less dc_less pm_less an_less cd_less ct_less), sl_less⟩)
    (c_less : PySem.W.codeIn K cd_less "_law_less" = true)
    (k_less : PySem.W.keepIn K (.ref f_less) = true)
    (a_anyof : PySem.W.nsIn K mainGlobals "_law_any_of" = some (some (.ref f_anyof)))
    (l_anyof : K.lookup f_anyof = some ⟨oc_anyof, od_anyof, .func (PySem.W.fnOf "_law_any_of" "_law_any_of" (C8.fnArgs s_anyof) (C8.fnBody s_anyof) (C8.fnScope s_anyof) .none kV_anyof dc_anyof pm_anyof an_anyof cd_anyof ct_anyof), sl_anyof⟩)
    (c_anyof : PySem.W.codeIn K cd_anyof "_law_any_of" = true)
    (k_anyof : PySem.W.keepIn K (.ref f_anyof) = true)
    (a_shaken : PySem.W.nsIn K mainGlobals "_law_shaken" = some (some (.ref f_shaken)))
    (l_shaken : K.lookup f_shaken = some ⟨oc_shaken, od_shaken, .func (PySem.W.fnOf "_law_shaken" "_law_shaken" (C8.fnArgs s_shaken) (C8.fnBody s_shaken) (C8.fnScope s_shaken) .none kV_shaken dc_shaken pm_shaken an_shaken cd_shaken ct_shaken), sl_shaken⟩)
    (c_shaken : PySem.W.codeIn K cd_shaken "_law_shaken" = true)
    (k_shaken : PySem.W.keepIn K (.ref f_shaken) = true)
    (a_letters : PySem.W.nsIn K mainGlobals "_law_letters" = some (some (.ref f_letters)))
    (l_letters : K.lookup f_letters = some ⟨oc_letters, od_letters, .func (PySem.W.fnOf "_law_letters" "_law_letters" (C8.fnArgs s_letters) (C8.fnBody s_letters) (C8.fnScope s_letters) .none kV_letters dc_letters pm_letters an_letters cd_letters ct_letters), sl_letters⟩)
    (c_letters : PySem.W.codeIn K cd_letters "_law_letters" = true)
    (k_letters : PySem.W.keepIn K (.ref f_letters) = true)
    (a_draft : PySem.W.nsIn K mainGlobals "_law_draft" = some (some (.ref f_draft)))
    (l_draft : K.lookup f_draft = some ⟨oc_draft, od_draft, .func (PySem.W.fnOf "_law_draft" "_law_draft" (C8.fnArgs s_draft) (C8.fnBody s_draft) (C8.fnScope s_draft) .none kV_draft dc_draft pm_draft an_draft cd_draft ct_draft), sl_draft⟩)
    (c_draft : PySem.W.codeIn K cd_draft "_law_draft" = true)
    (k_draft : PySem.W.keepIn K (.ref f_draft) = true)
    (a_lreader : PySem.W.nsIn K mainGlobals "_law_reader" = some (some (.ref f_lreader)))
    (l_lreader : K.lookup f_lreader = some ⟨oc_lreader, od_lreader, .func (PySem.W.fnOf "_law_reader" "_law_reader" (C8.fnArgs s_lreader) (C8.fnBody s_lreader) (C8.fnScope s_lreader) .none kV_lreader dc_lreader pm_lreader an_lreader cd_lreader ct_lreader), sl_lreader⟩)
    (c_lreader : PySem.W.codeIn K cd_lreader "_law_reader" = true)
    (k_lreader : PySem.W.keepIn K (.ref f_lreader) = true)
    (a_leads : PySem.W.nsIn K mainGlobals "_law_leads" = some (some (.ref f_leads)))
    (l_leads : K.lookup f_leads = some ⟨oc_leads, od_leads, .func (PySem.W.fnOf "_law_leads" "_law_leads" (C8.fnArgs s_leads) (C8.fnBody s_leads) (C8.fnScope s_leads) .none kV_leads dc_leads pm_leads an_leads cd_leads ct_leads), sl_leads⟩)
    (c_leads : PySem.W.codeIn K cd_leads "_law_leads" = true)
    (k_leads : PySem.W.keepIn K (.ref f_leads) = true)
    (a_deed : PySem.W.nsIn K mainGlobals "_law_deed" = some (some (.ref f_deed)))
    (l_deed : K.lookup f_deed = some ⟨oc_deed, od_deed, .func (PySem.W.fnOf "_law_deed" "_law_deed" (C8.fnArgs s_deed) (C8.fnBody s_deed) (C8.fnScope s_deed) .none kV_deed dc_deed pm_deed an_deed cd_deed ct_deed), sl_deed⟩)
    (c_deed : PySem.W.codeIn K cd_deed "_law_deed" = true)
    (k_deed : PySem.W.keepIn K (.ref f_deed) = true)
    (a_line : PySem.W.nsIn K mainGlobals "_law_line" = some (some (.ref f_line)))
    (l_line : K.lookup f_line = some ⟨oc_line, od_line, .func (PySem.W.fnOf "_law_line" "_law_line" (C8.fnArgs s_line) (C8.fnBody s_line) (C8.fnScope s_line) .none kV_line dc_line pm_line an_line cd_line ct_line), sl_line⟩)
    (c_line : PySem.W.codeIn K cd_line "_law_line" = true)
    (k_line : PySem.W.keepIn K (.ref f_line) = true)
    (a_deeds : PySem.W.nsIn K mainGlobals "_law_deeds" = some (some (.ref f_deeds)))
    (l_deeds : K.lookup f_deeds = some ⟨oc_deeds, od_deeds, .func (PySem.W.fnOf "_law_deeds" "_law_deeds" (C8.fnArgs s_deeds) (C8.fnBody s_deeds) (C8.fnScope s_deeds) .none kV_deeds dc_deeds pm_deeds an_deeds cd_deeds ct_deeds), sl_deeds⟩)
    (c_deeds : PySem.W.codeIn K cd_deeds "_law_deeds" = true)
    (k_deeds : PySem.W.keepIn K (.ref f_deeds) = true)
    (a_isseq : PySem.W.nsIn K mainGlobals "is_sequence" = some (some (.ref f_isseq)))
    (l_isseq : K.lookup f_isseq = some ⟨oc_isseq, od_isseq, .func (PySem.W.fnOf "is_sequence" "is_sequence" (C8.fnArgs s_isseq) (C8.fnBody s_isseq) (C8.fnScope s_isseq) .none kV_isseq dc_isseq pm_isseq an_isseq cd_isseq ct_isseq), sl_isseq⟩)
    (c_isseq : PySem.W.codeIn K cd_isseq "is_sequence" = true)
    (k_isseq : PySem.W.keepIn K (.ref f_isseq) = true)
    (a_isrow : PySem.W.nsIn K mainGlobals "is_row" = some (some (.ref f_isrow)))
    (l_isrow : K.lookup f_isrow = some ⟨oc_isrow, od_isrow, .func (PySem.W.fnOf "is_row" "is_row" (C8.fnArgs s_isrow) (C8.fnBody s_isrow) (C8.fnScope s_isrow) .none kV_isrow dc_isrow pm_isrow an_isrow cd_isrow ct_isrow), sl_isrow⟩)
    (c_isrow : PySem.W.codeIn K cd_isrow "is_row" = true)
    (k_isrow : PySem.W.keepIn K (.ref f_isrow) = true)
    (a_isletters : PySem.W.nsIn K mainGlobals "is_letters" = some (some (.ref f_isletters)))
    (l_isletters : K.lookup f_isletters = some ⟨oc_isletters, od_isletters, .func (PySem.W.fnOf "is_letters" "is_letters" (C8.fnArgs s_isletters) (C8.fnBody s_isletters) (C8.fnScope s_isletters) .none kV_isletters dc_isletters pm_isletters an_isletters cd_isletters ct_isletters), sl_isletters⟩)
    (c_isletters : PySem.W.codeIn K cd_isletters "is_letters" = true)
    (k_isletters : PySem.W.keepIn K (.ref f_isletters) = true)
    (a_issigns : PySem.W.nsIn K mainGlobals "is_signs" = some (some (.ref f_issigns)))
    (l_issigns : K.lookup f_issigns = some ⟨oc_issigns, od_issigns, .func (PySem.W.fnOf "is_signs" "is_signs" (C8.fnArgs s_issigns) (C8.fnBody s_issigns) (C8.fnScope s_issigns) .none kV_issigns dc_issigns pm_issigns an_issigns cd_issigns ct_issigns), sl_issigns⟩)
    (c_issigns : PySem.W.codeIn K cd_issigns "is_signs" = true)
    (k_issigns : PySem.W.keepIn K (.ref f_issigns) = true)
    (a_isname : PySem.W.nsIn K mainGlobals "is_name" = some (some (.ref f_isname)))
    (l_isname : K.lookup f_isname = some ⟨oc_isname, od_isname, .func (PySem.W.fnOf "is_name" "is_name" (C8.fnArgs s_isname) (C8.fnBody s_isname) (C8.fnScope s_isname) .none kV_isname dc_isname pm_isname an_isname cd_isname ct_isname), sl_isname⟩)
    (c_isname : PySem.W.codeIn K cd_isname "is_name" = true)
    (k_isname : PySem.W.keepIn K (.ref f_isname) = true)
    (a_ismarks : PySem.W.nsIn K mainGlobals "_is_marks" = some (some (.ref f_ismarks)))
    (l_ismarks : K.lookup f_ismarks = some ⟨oc_ismarks, od_ismarks, .func (PySem.W.fnOf "_is_marks" "_is_marks" (C8.fnArgs s_ismarks) (C8.fnBody s_ismarks) (C8.fnScope s_ismarks) .none kV_ismarks dc_ismarks pm_ismarks an_ismarks cd_ismarks ct_ismarks), sl_ismarks⟩)
    (c_ismarks : PySem.W.codeIn K cd_ismarks "_is_marks" = true)
    (k_ismarks : PySem.W.keepIn K (.ref f_ismarks) = true)
    (a_istargets : PySem.W.nsIn K mainGlobals "_is_targets" = some (some (.ref f_istargets)))
    (l_istargets : K.lookup f_istargets = some ⟨oc_istargets, od_istargets, .func (PySem.W.fnOf "_is_targets" "_is_targets" (C8.fnArgs s_istargets) (C8.fnBody s_istargets) (C8.fnScope s_istargets) .none kV_istargets dc_istargets pm_istargets an_istargets cd_istargets ct_istargets), sl_istargets⟩)
    (c_istargets : PySem.W.codeIn K cd_istargets "_is_targets" = true)
    (k_istargets : PySem.W.keepIn K (.ref f_istargets) = true)
    (a_issteps : PySem.W.nsIn K mainGlobals "_is_steps" = some (some (.ref f_issteps)))
    (l_issteps : K.lookup f_issteps = some ⟨oc_issteps, od_issteps, .func (PySem.W.fnOf "_is_steps" "_is_steps" (C8.fnArgs s_issteps) (C8.fnBody s_issteps) (C8.fnScope s_issteps) .none kV_issteps dc_issteps pm_issteps an_issteps cd_issteps ct_issteps), sl_issteps⟩)
    (c_issteps : PySem.W.codeIn K cd_issteps "_is_steps" = true)
    (k_issteps : PySem.W.keepIn K (.ref f_issteps) = true)
    (a_m_num : PySem.W.findIn K (.ref C_Reader) "number_of" = some (some (.ref f_m_num)))
    (i_m_num : PySem.W.isFn K (.ref f_m_num) = true)
    (l_m_num : K.lookup f_m_num = some ⟨oc_m_num, od_m_num, .func (PySem.W.fnOf "number_of" "Reader.number_of" (C8.fnArgs s_m_num) (C8.fnBody s_m_num) (C8.fnScope s_m_num) .none kV_m_num dc_m_num pm_m_num an_m_num cd_m_num ct_m_num), sl_m_num⟩)
    (c_m_num : PySem.W.codeIn K cd_m_num "Reader.number_of" = true)
    (k_m_num : PySem.W.keepIn K (.ref f_m_num) = true)
    (a_table : PySem.W.nsIn K mainGlobals "table_of" = some (some (.ref f_table)))
    (l_table : K.lookup f_table = some ⟨oc_table, od_table, .func (PySem.W.fnOf "table_of" "table_of" (C8.fnArgs s_table) (C8.fnBody s_table) (C8.fnScope s_table) .none kV_table dc_table pm_table an_table cd_table ct_table), sl_table⟩)
    (c_table : PySem.W.codeIn K cd_table "table_of" = true)
    (k_table : PySem.W.keepIn K (.ref f_table) = true)
    (a_cols : PySem.W.nsIn K mainGlobals "columns_of" = some (some (.ref f_cols)))
    (l_cols : K.lookup f_cols = some ⟨oc_cols, od_cols, .func (PySem.W.fnOf "columns_of" "columns_of" (C8.fnArgs s_cols) (C8.fnBody s_cols) (C8.fnScope s_cols) .none kV_cols dc_cols pm_cols an_cols cd_cols ct_cols), sl_cols⟩)
    (c_cols : PySem.W.codeIn K cd_cols "columns_of" = true)
    (k_cols : PySem.W.keepIn K (.ref f_cols) = true)
    (a_init : PySem.W.findIn K (.ref C_Reader) "__init__" = some (some (.ref f_init)))
    (i_init : PySem.W.isFn K (.ref f_init) = true)
    (l_init : K.lookup f_init = some ⟨oc_init, od_init, .func (PySem.W.fnOf "__init__" "Reader.__init__" (C8.fnArgs s_init) (C8.fnBody s_init) (C8.fnScope s_init) .none kV_init dc_init pm_init an_init cd_init ct_init), sl_init⟩)
    (c_init : PySem.W.codeIn K cd_init "Reader.__init__" = true)
    (k_init : PySem.W.keepIn K (.ref f_init) = true)
    (a_m_nled : PySem.W.findIn K (.ref C_Reader) "numbers_led" = some (some (.ref f_m_nled)))
    (i_m_nled : PySem.W.isFn K (.ref f_m_nled) = true)
    (l_m_nled : K.lookup f_m_nled = some ⟨oc_m_nled, od_m_nled, .func (PySem.W.fnOf "numbers_led" "Reader.numbers_led" (C8.fnArgs s_m_nled) (C8.fnBody s_m_nled) (C8.fnScope s_m_nled) .none kV_m_nled dc_m_nled pm_m_nled an_m_nled cd_m_nled ct_m_nled), sl_m_nled⟩)
    (c_m_nled : PySem.W.codeIn K cd_m_nled "Reader.numbers_led" = true)
    (k_m_nled : PySem.W.keepIn K (.ref f_m_nled) = true)
    (a_marksat : PySem.W.nsIn K mainGlobals "_marks_at" = some (some (.ref f_marksat)))
    (l_marksat : K.lookup f_marksat = some ⟨oc_marksat, od_marksat, .func (PySem.W.fnOf "_marks_at" "_marks_at" (C8.fnArgs s_marksat) (C8.fnBody s_marksat) (C8.fnScope s_marksat) .none kV_marksat dc_marksat pm_marksat an_marksat cd_marksat ct_marksat), sl_marksat⟩)
    (c_marksat : PySem.W.codeIn K cd_marksat "_marks_at" = true)
    (k_marksat : PySem.W.keepIn K (.ref f_marksat) = true)
    (a_act : PySem.W.nsIn K mainGlobals "act" = some (some (.ref f_act)))
    (l_act : K.lookup f_act = some ⟨oc_act, od_act, .func (PySem.W.fnOf "act" "act" (C8.fnArgs s_act) (C8.fnBody s_act) (C8.fnScope s_act) .none kV_act dc_act pm_act an_act cd_act ct_act), sl_act⟩)
    (c_act : PySem.W.codeIn K cd_act "act" = true)
    (k_act : PySem.W.keepIn K (.ref f_act) = true)
    (a_fact : PySem.W.nsIn K mainGlobals "first_act" = some (some (.ref f_fact)))
    (l_fact : K.lookup f_fact = some ⟨oc_fact, od_fact, .func (PySem.W.fnOf "first_act" "first_act" (C8.fnArgs s_fact) (C8.fnBody s_fact) (C8.fnScope s_fact) .none kV_fact dc_fact pm_fact an_fact cd_fact ct_fact), sl_fact⟩)
    (c_fact : PySem.W.codeIn K cd_fact "first_act" = true)
    (k_fact : PySem.W.keepIn K (.ref f_fact) = true)
    (a_then : PySem.W.nsIn K mainGlobals "act_then" = some (some (.ref f_then)))
    (l_then : K.lookup f_then = some ⟨oc_then, od_then, .func (PySem.W.fnOf "act_then" "act_then" (C8.fnArgs s_then) (C8.fnBody s_then) (C8.fnScope s_then) .none kV_then dc_then pm_then an_then cd_then ct_then), sl_then⟩)
    (c_then : PySem.W.codeIn K cd_then "act_then" = true)
    (k_then : PySem.W.keepIn K (.ref f_then) = true)
    (a_until : PySem.W.nsIn K mainGlobals "_walked_until" = some (some (.ref f_until)))
    (l_until : K.lookup f_until = some ⟨oc_until, od_until, .func (PySem.W.fnOf "_walked_until" "_walked_until" (C8.fnArgs s_until) (C8.fnBody s_until) (C8.fnScope s_until) .none kV_until dc_until pm_until an_until cd_until ct_until), sl_until⟩)
    (c_until : PySem.W.codeIn K cd_until "_walked_until" = true)
    (k_until : PySem.W.keepIn K (.ref f_until) = true)
    (a_never : PySem.W.nsIn K mainGlobals "_never" = some (some (.ref f_never)))
    (l_never : K.lookup f_never = some ⟨oc_never, od_never, .func (PySem.W.fnOf "_never" "_never" (C8.fnArgs s_never) (C8.fnBody s_never) (C8.fnScope s_never) .none kV_never dc_never pm_never an_never cd_never ct_never), sl_never⟩)
    (c_never : PySem.W.codeIn K cd_never "_never" = true)
    (k_never : PySem.W.keepIn K (.ref f_never) = true)
    (a_walked : PySem.W.nsIn K mainGlobals "walked" = some (some (.ref f_walked)))
    (l_walked : K.lookup f_walked = some ⟨oc_walked, od_walked, .func (PySem.W.fnOf "walked" "walked" (C8.fnArgs s_walked) (C8.fnBody s_walked) (C8.fnScope s_walked) .none kV_walked dc_walked pm_walked an_walked cd_walked ct_walked), sl_walked⟩)
    (c_walked : PySem.W.codeIn K cd_walked "walked" = true)
    (k_walked : PySem.W.keepIn K (.ref f_walked) = true)
    (a_actlead : PySem.W.nsIn K mainGlobals "_act_lead" = some (some (.ref f_actlead)))
    (l_actlead : K.lookup f_actlead = some ⟨oc_actlead, od_actlead, .func (PySem.W.fnOf "_act_lead" "_act_lead" (C8.fnArgs s_actlead) (C8.fnBody s_actlead) (C8.fnScope s_actlead) .none kV_actlead dc_actlead pm_actlead an_actlead (.ref cc_actlead) ct_actlead), sl_actlead⟩)
    (lc_actlead : K.lookup cc_actlead = some ⟨oc2_actlead, oe_actlead, .fields vs_actlead, sl2_actlead⟩)
    (pv_actlead : (vs_actlead[11]? : Option Value) = some (.ref PP_actlead))
    (tn_actlead : K.lookup PP_actlead = none)
    (c_actlead : PySem.W.codeIn K (.ref cc_actlead) "_act_lead" = true)
    (k_actlead : PySem.W.keepIn K (.ref f_actlead) = true)
    (a_acts : PySem.W.nsIn K mainGlobals "acts" = some (some (.ref f_acts)))
    (l_acts : K.lookup f_acts = some ⟨oc_acts, od_acts, .func (PySem.W.fnOf "acts" "acts" (C8.fnArgs s_acts) (C8.fnBody s_acts) (C8.fnScope s_acts) .none kV_acts dc_acts pm_acts an_acts cd_acts ct_acts), sl_acts⟩)
    (c_acts : PySem.W.codeIn K cd_acts "acts" = true)
    (k_acts : PySem.W.keepIn K (.ref f_acts) = true)
    (a_law : PySem.W.nsIn K mainGlobals "law" = some (some (.ref f_law)))
    (l_law : K.lookup f_law = some ⟨oc_law, od_law, .func (PySem.W.fnOf "law" "law" (C8.fnArgs s_law) (C8.fnBody s_law) (C8.fnScope s_law) .none kV_law dc_law pm_law an_law cd_law ct_law), sl_law⟩)
    (c_law : PySem.W.codeIn K cd_law "law" = true)
    (k_law : PySem.W.keepIn K (.ref f_law) = true)
    (z_int : PySem.W.nsIn K mainGlobals "int" = some none)
    (z_len : PySem.W.nsIn K mainGlobals "len" = some none)
    (z_abs : PySem.W.nsIn K mainGlobals "abs" = some none)
    (z_str : PySem.W.nsIn K mainGlobals "str" = some none)
    (z_list : PySem.W.nsIn K mainGlobals "list" = some none)
    (z_tuple : PySem.W.nsIn K mainGlobals "tuple" = some none)
    (z_dict : PySem.W.nsIn K mainGlobals "dict" = some none)
    (z_set : PySem.W.nsIn K mainGlobals "set" = some none)
    (z_isinstance : PySem.W.nsIn K mainGlobals "isinstance" = some none)
    (z_all : PySem.W.nsIn K mainGlobals "all" = some none)
    (z_zip : PySem.W.nsIn K mainGlobals "zip" = some none)
    (z_enumerate : PySem.W.nsIn K mainGlobals "enumerate" = some none)
    (z_range : PySem.W.nsIn K mainGlobals "range" = some none)
    (z_max : PySem.W.nsIn K mainGlobals "max" = some none)
    (z_min : PySem.W.nsIn K mainGlobals "min" = some none)
    (z_sorted : PySem.W.nsIn K mainGlobals "sorted" = some none)
    (z_repr : PySem.W.nsIn K mainGlobals "repr" = some none) :
    ∃ (fd : FuncData) (tt : List (Addr × Addr)), (∀ p ∈ tt, (∃ (nm : Str) (e : DefRec), PySem.W.tabIn K nm = some p ∧ (PyProof.Rows.recsOf qp).find? (fun e => e.name == nm) = some e) ∧ K.lookup p.2 = none) ∧ (∀ (s : Shared) (v : Value), BindsTo s fd ⟨[v], []⟩ [("script", v)]) ∧ ∀ base : Heap, K.In base → base.Ns mainGlobals mg → (∀ p ∈ tt, LamX.TabB base mg p.1 p.2) → FnG l.prog w K mg base 8 fa fd ["script"] (spLaw (ttOf tt) K) := by
  have e := hfa.symm.trans (PySem.W.mg_of X G a_law)
  cases e
  have T : BT mg := ⟨PySem.W.mg_none_of X G z_int, PySem.W.mg_none_of X G z_len, PySem.W.mg_none_of X G z_abs, PySem.W.mg_none_of X G z_str, PySem.W.mg_none_of X G z_list, PySem.W.mg_none_of X G z_tuple, PySem.W.mg_none_of X G z_dict, PySem.W.mg_none_of X G z_set, PySem.W.mg_none_of X G z_isinstance, PySem.W.mg_none_of X G z_all, PySem.W.mg_none_of X G z_zip, PySem.W.mg_none_of X G z_enumerate, PySem.W.mg_none_of X G z_range, PySem.W.mg_none_of X G z_max, PySem.W.mg_none_of X G z_min, PySem.W.mg_none_of X G z_sorted, PySem.W.mg_none_of X G z_repr⟩
  have mg_az := PySem.W.mg_of X G q_az
  have U_flow : C8.Fun K "_law_flow" "_law_flow" s_flow f_flow (PySem.W.fnOf "_law_flow" "_law_flow" (C8.fnArgs s_flow) (C8.fnBody s_flow) (C8.fnScope s_flow) .none kV_flow dc_flow pm_flow an_flow cd_flow ct_flow) := ⟨oc_flow, od_flow, .none, kV_flow, dc_flow, pm_flow, an_flow, cd_flow, ct_flow, sl_flow, rfl, l_flow, c_flow⟩
  have F_flow : C8.Def K mg "_law_flow" s_flow f_flow _ := ⟨U_flow, PySem.W.mg_of X G a_flow, k_flow⟩
  have b_flow := U_flow.binds rfl (ps := ["script", "base"]) fun _ _ _ _ _ _ us hl => match us, hl with | [_, _], _ => rfl
  have U_less : C8.Fun K "_law_less" "_law_less" s_less f_less (PySem.W.fnOf "_law_less" "_law_less" (C8.fnArgs s_less) (C8.fnBody s_less) (C8.fnScope s_less) .none kV_less dc_less pm_less an_less cd_less ct_less) := ⟨oc_less, od_less, .none, kV_less, dc_less, pm_less, an_less, cd_less, ct_less, sl_less, rfl, l_less, c_less⟩
  have F_less : C8.Def K mg "_law_less" s_less f_less _ := ⟨U_less, PySem.W.mg_of X G a_less, k_less⟩
  have b_less := U_less.binds rfl (ps := ["flow", "wide"]) fun _ _ _ _ _ _ us hl => match us, hl with | [_, _], _ => rfl
  have U_anyof : C8.Fun K "_law_any_of" "_law_any_of" s_anyof f_anyof (PySem.W.fnOf "_law_any_of" "_law_any_of" (C8.fnArgs s_anyof) (C8.fnBody s_anyof) (C8.fnScope s_anyof) .none kV_anyof dc_anyof pm_anyof an_anyof cd_anyof ct_anyof) := ⟨oc_anyof, od_anyof, .none, kV_anyof, dc_anyof, pm_anyof, an_anyof, cd_anyof, ct_anyof, sl_anyof, rfl, l_anyof, c_anyof⟩
  have F_anyof : C8.Def K mg "_law_any_of" s_anyof f_anyof _ := ⟨U_anyof, PySem.W.mg_of X G a_anyof, k_anyof⟩
  have b_anyof := U_anyof.binds rfl (ps := ["flow", "some"]) fun _ _ _ _ _ _ us hl => match us, hl with | [_, _], _ => rfl
  have U_shaken : C8.Fun K "_law_shaken" "_law_shaken" s_shaken f_shaken (PySem.W.fnOf "_law_shaken" "_law_shaken" (C8.fnArgs s_shaken) (C8.fnBody s_shaken) (C8.fnScope s_shaken) .none kV_shaken dc_shaken pm_shaken an_shaken cd_shaken ct_shaken) := ⟨oc_shaken, od_shaken, .none, kV_shaken, dc_shaken, pm_shaken, an_shaken, cd_shaken, ct_shaken, sl_shaken, rfl, l_shaken, c_shaken⟩
  have F_shaken : C8.Def K mg "_law_shaken" s_shaken f_shaken _ := ⟨U_shaken, PySem.W.mg_of X G a_shaken, k_shaken⟩
  have b_shaken := U_shaken.binds rfl (ps := ["flow", "some"]) fun _ _ _ _ _ _ us hl => match us, hl with | [_, _], _ => rfl
  have U_letters : C8.Fun K "_law_letters" "_law_letters" s_letters f_letters (PySem.W.fnOf "_law_letters" "_law_letters" (C8.fnArgs s_letters) (C8.fnBody s_letters) (C8.fnScope s_letters) .none kV_letters dc_letters pm_letters an_letters cd_letters ct_letters) := ⟨oc_letters, od_letters, .none, kV_letters, dc_letters, pm_letters, an_letters, cd_letters, ct_letters, sl_letters, rfl, l_letters, c_letters⟩
  have F_letters : C8.Def K mg "_law_letters" s_letters f_letters _ := ⟨U_letters, PySem.W.mg_of X G a_letters, k_letters⟩
  have b_letters := U_letters.binds rfl (ps := ["flow", "most"]) fun _ _ _ _ _ _ us hl => match us, hl with | [_, _], _ => rfl
  have U_draft : C8.Fun K "_law_draft" "_law_draft" s_draft f_draft (PySem.W.fnOf "_law_draft" "_law_draft" (C8.fnArgs s_draft) (C8.fnBody s_draft) (C8.fnScope s_draft) .none kV_draft dc_draft pm_draft an_draft cd_draft ct_draft) := ⟨oc_draft, od_draft, .none, kV_draft, dc_draft, pm_draft, an_draft, cd_draft, ct_draft, sl_draft, rfl, l_draft, c_draft⟩
  have F_draft : C8.Def K mg "_law_draft" s_draft f_draft _ := ⟨U_draft, PySem.W.mg_of X G a_draft, k_draft⟩
  have b_draft := U_draft.binds rfl (ps := ["flow", "signs_here", "most"]) fun _ _ _ _ _ _ us hl => match us, hl with | [_, _, _], _ => rfl
  have U_lreader : C8.Fun K "_law_reader" "_law_reader" s_lreader f_lreader (PySem.W.fnOf "_law_reader" "_law_reader" (C8.fnArgs s_lreader) (C8.fnBody s_lreader) (C8.fnScope s_lreader) .none kV_lreader dc_lreader pm_lreader an_lreader cd_lreader ct_lreader) := ⟨oc_lreader, od_lreader, .none, kV_lreader, dc_lreader, pm_lreader, an_lreader, cd_lreader, ct_lreader, sl_lreader, rfl, l_lreader, c_lreader⟩
  have F_lreader : C8.Def K mg "_law_reader" s_lreader f_lreader _ := ⟨U_lreader, PySem.W.mg_of X G a_lreader, k_lreader⟩
  have b_lreader := U_lreader.binds rfl (ps := ["signs_here", "draft"]) fun _ _ _ _ _ _ us hl => match us, hl with | [_, _], _ => rfl
  have U_leads : C8.Fun K "_law_leads" "_law_leads" s_leads f_leads (PySem.W.fnOf "_law_leads" "_law_leads" (C8.fnArgs s_leads) (C8.fnBody s_leads) (C8.fnScope s_leads) .none kV_leads dc_leads pm_leads an_leads cd_leads ct_leads) := ⟨oc_leads, od_leads, .none, kV_leads, dc_leads, pm_leads, an_leads, cd_leads, ct_leads, sl_leads, rfl, l_leads, c_leads⟩
  have F_leads : C8.Def K mg "_law_leads" s_leads f_leads _ := ⟨U_leads, PySem.W.mg_of X G a_leads, k_leads⟩
  have b_leads := U_leads.binds rfl (ps := ["draft", "mark", "line"]) fun _ _ _ _ _ _ us hl => match us, hl with | [_, _, _], _ => rfl
  have U_deed : C8.Fun K "_law_deed" "_law_deed" s_deed f_deed (PySem.W.fnOf "_law_deed" "_law_deed" (C8.fnArgs s_deed) (C8.fnBody s_deed) (C8.fnScope s_deed) .none kV_deed dc_deed pm_deed an_deed cd_deed ct_deed) := ⟨oc_deed, od_deed, .none, kV_deed, dc_deed, pm_deed, an_deed, cd_deed, ct_deed, sl_deed, rfl, l_deed, c_deed⟩
  have F_deed : C8.Def K mg "_law_deed" s_deed f_deed _ := ⟨U_deed, PySem.W.mg_of X G a_deed, k_deed⟩
  have b_deed := U_deed.binds rfl (ps := ["draft", "line"]) fun _ _ _ _ _ _ us hl => match us, hl with | [_, _], _ => rfl
  have U_line : C8.Fun K "_law_line" "_law_line" s_line f_line (PySem.W.fnOf "_law_line" "_law_line" (C8.fnArgs s_line) (C8.fnBody s_line) (C8.fnScope s_line) .none kV_line dc_line pm_line an_line cd_line ct_line) := ⟨oc_line, od_line, .none, kV_line, dc_line, pm_line, an_line, cd_line, ct_line, sl_line, rfl, l_line, c_line⟩
  have F_line : C8.Def K mg "_law_line" s_line f_line _ := ⟨U_line, PySem.W.mg_of X G a_line, k_line⟩
  have b_line := U_line.binds rfl (ps := ["flow", "signs_here", "most"]) fun _ _ _ _ _ _ us hl => match us, hl with | [_, _, _], _ => rfl
  have U_deeds : C8.Fun K "_law_deeds" "_law_deeds" s_deeds f_deeds (PySem.W.fnOf "_law_deeds" "_law_deeds" (C8.fnArgs s_deeds) (C8.fnBody s_deeds) (C8.fnScope s_deeds) .none kV_deeds dc_deeds pm_deeds an_deeds cd_deeds ct_deeds) := ⟨oc_deeds, od_deeds, .none, kV_deeds, dc_deeds, pm_deeds, an_deeds, cd_deeds, ct_deeds, sl_deeds, rfl, l_deeds, c_deeds⟩
  have F_deeds : C8.Def K mg "_law_deeds" s_deeds f_deeds _ := ⟨U_deeds, PySem.W.mg_of X G a_deeds, k_deeds⟩
  have b_deeds := U_deeds.binds rfl (ps := ["draft", "signs_here"]) fun _ _ _ _ _ _ us hl => match us, hl with | [_, _], _ => rfl
  have U_isseq : C8.Fun K "is_sequence" "is_sequence" s_isseq f_isseq (PySem.W.fnOf "is_sequence" "is_sequence" (C8.fnArgs s_isseq) (C8.fnBody s_isseq) (C8.fnScope s_isseq) .none kV_isseq dc_isseq pm_isseq an_isseq cd_isseq ct_isseq) := ⟨oc_isseq, od_isseq, .none, kV_isseq, dc_isseq, pm_isseq, an_isseq, cd_isseq, ct_isseq, sl_isseq, rfl, l_isseq, c_isseq⟩
  have F_isseq : C8.Def K mg "is_sequence" s_isseq f_isseq _ := ⟨U_isseq, PySem.W.mg_of X G a_isseq, k_isseq⟩
  have b_isseq := U_isseq.binds rfl (ps := ["value"]) fun _ _ _ _ _ _ us hl => match us, hl with | [_], _ => rfl
  have U_isrow : C8.Fun K "is_row" "is_row" s_isrow f_isrow (PySem.W.fnOf "is_row" "is_row" (C8.fnArgs s_isrow) (C8.fnBody s_isrow) (C8.fnScope s_isrow) .none kV_isrow dc_isrow pm_isrow an_isrow cd_isrow ct_isrow) := ⟨oc_isrow, od_isrow, .none, kV_isrow, dc_isrow, pm_isrow, an_isrow, cd_isrow, ct_isrow, sl_isrow, rfl, l_isrow, c_isrow⟩
  have F_isrow : C8.Def K mg "is_row" s_isrow f_isrow _ := ⟨U_isrow, PySem.W.mg_of X G a_isrow, k_isrow⟩
  have b_isrow := U_isrow.binds rfl (ps := ["value", "signs"]) fun _ _ _ _ _ _ us hl => match us, hl with | [_, _], _ => rfl
  have U_isletters : C8.Fun K "is_letters" "is_letters" s_isletters f_isletters (PySem.W.fnOf "is_letters" "is_letters" (C8.fnArgs s_isletters) (C8.fnBody s_isletters) (C8.fnScope s_isletters) .none kV_isletters dc_isletters pm_isletters an_isletters cd_isletters ct_isletters) := ⟨oc_isletters, od_isletters, .none, kV_isletters, dc_isletters, pm_isletters, an_isletters, cd_isletters, ct_isletters, sl_isletters, rfl, l_isletters, c_isletters⟩
  have F_isletters : C8.Def K mg "is_letters" s_isletters f_isletters _ := ⟨U_isletters, PySem.W.mg_of X G a_isletters, k_isletters⟩
  have b_isletters := U_isletters.binds rfl (ps := ["value"]) fun _ _ _ _ _ _ us hl => match us, hl with | [_], _ => rfl
  have U_issigns : C8.Fun K "is_signs" "is_signs" s_issigns f_issigns (PySem.W.fnOf "is_signs" "is_signs" (C8.fnArgs s_issigns) (C8.fnBody s_issigns) (C8.fnScope s_issigns) .none kV_issigns dc_issigns pm_issigns an_issigns cd_issigns ct_issigns) := ⟨oc_issigns, od_issigns, .none, kV_issigns, dc_issigns, pm_issigns, an_issigns, cd_issigns, ct_issigns, sl_issigns, rfl, l_issigns, c_issigns⟩
  have F_issigns : C8.Def K mg "is_signs" s_issigns f_issigns _ := ⟨U_issigns, PySem.W.mg_of X G a_issigns, k_issigns⟩
  have b_issigns := U_issigns.binds rfl (ps := ["value"]) fun _ _ _ _ _ _ us hl => match us, hl with | [_], _ => rfl
  have U_isname : C8.Fun K "is_name" "is_name" s_isname f_isname (PySem.W.fnOf "is_name" "is_name" (C8.fnArgs s_isname) (C8.fnBody s_isname) (C8.fnScope s_isname) .none kV_isname dc_isname pm_isname an_isname cd_isname ct_isname) := ⟨oc_isname, od_isname, .none, kV_isname, dc_isname, pm_isname, an_isname, cd_isname, ct_isname, sl_isname, rfl, l_isname, c_isname⟩
  have F_isname : C8.Def K mg "is_name" s_isname f_isname _ := ⟨U_isname, PySem.W.mg_of X G a_isname, k_isname⟩
  have b_isname := U_isname.binds rfl (ps := ["value"]) fun _ _ _ _ _ _ us hl => match us, hl with | [_], _ => rfl
  have U_ismarks : C8.Fun K "_is_marks" "_is_marks" s_ismarks f_ismarks (PySem.W.fnOf "_is_marks" "_is_marks" (C8.fnArgs s_ismarks) (C8.fnBody s_ismarks) (C8.fnScope s_ismarks) .none kV_ismarks dc_ismarks pm_ismarks an_ismarks cd_ismarks ct_ismarks) := ⟨oc_ismarks, od_ismarks, .none, kV_ismarks, dc_ismarks, pm_ismarks, an_ismarks, cd_ismarks, ct_ismarks, sl_ismarks, rfl, l_ismarks, c_ismarks⟩
  have F_ismarks : C8.Def K mg "_is_marks" s_ismarks f_ismarks _ := ⟨U_ismarks, PySem.W.mg_of X G a_ismarks, k_ismarks⟩
  have b_ismarks := U_ismarks.binds rfl (ps := ["value"]) fun _ _ _ _ _ _ us hl => match us, hl with | [_], _ => rfl
  have U_istargets : C8.Fun K "_is_targets" "_is_targets" s_istargets f_istargets (PySem.W.fnOf "_is_targets" "_is_targets" (C8.fnArgs s_istargets) (C8.fnBody s_istargets) (C8.fnScope s_istargets) .none kV_istargets dc_istargets pm_istargets an_istargets cd_istargets ct_istargets) := ⟨oc_istargets, od_istargets, .none, kV_istargets, dc_istargets, pm_istargets, an_istargets, cd_istargets, ct_istargets, sl_istargets, rfl, l_istargets, c_istargets⟩
  have F_istargets : C8.Def K mg "_is_targets" s_istargets f_istargets _ := ⟨U_istargets, PySem.W.mg_of X G a_istargets, k_istargets⟩
  have b_istargets := U_istargets.binds rfl (ps := ["value", "signs", "marks"]) fun _ _ _ _ _ _ us hl => match us, hl with | [_, _, _], _ => rfl
  have U_issteps : C8.Fun K "_is_steps" "_is_steps" s_issteps f_issteps (PySem.W.fnOf "_is_steps" "_is_steps" (C8.fnArgs s_issteps) (C8.fnBody s_issteps) (C8.fnScope s_issteps) .none kV_issteps dc_issteps pm_issteps an_issteps cd_issteps ct_issteps) := ⟨oc_issteps, od_issteps, .none, kV_issteps, dc_issteps, pm_issteps, an_issteps, cd_issteps, ct_issteps, sl_issteps, rfl, l_issteps, c_issteps⟩
  have F_issteps : C8.Def K mg "_is_steps" s_issteps f_issteps _ := ⟨U_issteps, PySem.W.mg_of X G a_issteps, k_issteps⟩
  have b_issteps := U_issteps.binds rfl (ps := ["value", "signs", "marks"]) fun _ _ _ _ _ _ us hl => match us, hl with | [_, _, _], _ => rfl
  have U_m_num : C8.Fun K "number_of" "Reader.number_of" s_m_num f_m_num (PySem.W.fnOf "number_of" "Reader.number_of" (C8.fnArgs s_m_num) (C8.fnBody s_m_num) (C8.fnScope s_m_num) .none kV_m_num dc_m_num pm_m_num an_m_num cd_m_num ct_m_num) := ⟨oc_m_num, od_m_num, .none, kV_m_num, dc_m_num, pm_m_num, an_m_num, cd_m_num, ct_m_num, sl_m_num, rfl, l_m_num, c_m_num⟩
  have me_m_num : Meth K C_Reader "number_of" f_m_num := ⟨a_m_num, i_m_num, k_m_num⟩
  have b_m_num := U_m_num.binds rfl (ps := ["self", "mark"]) fun _ _ _ _ _ _ us hl => match us, hl with | [_, _], _ => rfl
  have U_table : C8.Fun K "table_of" "table_of" s_table f_table (PySem.W.fnOf "table_of" "table_of" (C8.fnArgs s_table) (C8.fnBody s_table) (C8.fnScope s_table) .none kV_table dc_table pm_table an_table cd_table ct_table) := ⟨oc_table, od_table, .none, kV_table, dc_table, pm_table, an_table, cd_table, ct_table, sl_table, rfl, l_table, c_table⟩
  have F_table : C8.Def K mg "table_of" s_table f_table _ := ⟨U_table, PySem.W.mg_of X G a_table, k_table⟩
  have b_table := U_table.binds rfl (ps := ["reader"]) fun _ _ _ _ _ _ us hl => match us, hl with | [_], _ => rfl
  have U_cols : C8.Fun K "columns_of" "columns_of" s_cols f_cols (PySem.W.fnOf "columns_of" "columns_of" (C8.fnArgs s_cols) (C8.fnBody s_cols) (C8.fnScope s_cols) .none kV_cols dc_cols pm_cols an_cols cd_cols ct_cols) := ⟨oc_cols, od_cols, .none, kV_cols, dc_cols, pm_cols, an_cols, cd_cols, ct_cols, sl_cols, rfl, l_cols, c_cols⟩
  have F_cols : C8.Def K mg "columns_of" s_cols f_cols _ := ⟨U_cols, PySem.W.mg_of X G a_cols, k_cols⟩
  have b_cols := U_cols.binds rfl (ps := ["signs", "table"]) fun _ _ _ _ _ _ us hl => match us, hl with | [_, _], _ => rfl
  have U_init : C8.Fun K "__init__" "Reader.__init__" s_init f_init (PySem.W.fnOf "__init__" "Reader.__init__" (C8.fnArgs s_init) (C8.fnBody s_init) (C8.fnScope s_init) .none kV_init dc_init pm_init an_init cd_init ct_init) := ⟨oc_init, od_init, .none, kV_init, dc_init, pm_init, an_init, cd_init, ct_init, sl_init, rfl, l_init, c_init⟩
  have me_init : Meth K C_Reader "__init__" f_init := ⟨a_init, i_init, k_init⟩
  have b_init := U_init.binds rfl (ps := ["self", "signs", "marks", "first", "steps"]) fun _ _ _ _ _ _ us hl => match us, hl with | [_, _, _, _, _], _ => rfl
  have U_m_nled : C8.Fun K "numbers_led" "Reader.numbers_led" s_m_nled f_m_nled (PySem.W.fnOf "numbers_led" "Reader.numbers_led" (C8.fnArgs s_m_nled) (C8.fnBody s_m_nled) (C8.fnScope s_m_nled) .none kV_m_nled dc_m_nled pm_m_nled an_m_nled cd_m_nled ct_m_nled) := ⟨oc_m_nled, od_m_nled, .none, kV_m_nled, dc_m_nled, pm_m_nled, an_m_nled, cd_m_nled, ct_m_nled, sl_m_nled, rfl, l_m_nled, c_m_nled⟩
  have me_m_nled : Meth K C_Reader "numbers_led" f_m_nled := ⟨a_m_nled, i_m_nled, k_m_nled⟩
  have b_m_nled := U_m_nled.binds rfl (ps := ["self", "row"]) fun _ _ _ _ _ _ us hl => match us, hl with | [_, _], _ => rfl
  have U_marksat : C8.Fun K "_marks_at" "_marks_at" s_marksat f_marksat (PySem.W.fnOf "_marks_at" "_marks_at" (C8.fnArgs s_marksat) (C8.fnBody s_marksat) (C8.fnScope s_marksat) .none kV_marksat dc_marksat pm_marksat an_marksat cd_marksat ct_marksat) := ⟨oc_marksat, od_marksat, .none, kV_marksat, dc_marksat, pm_marksat, an_marksat, cd_marksat, ct_marksat, sl_marksat, rfl, l_marksat, c_marksat⟩
  have F_marksat : C8.Def K mg "_marks_at" s_marksat f_marksat _ := ⟨U_marksat, PySem.W.mg_of X G a_marksat, k_marksat⟩
  have b_marksat := U_marksat.binds rfl (ps := ["reader", "numbers"]) fun _ _ _ _ _ _ us hl => match us, hl with | [_, _], _ => rfl
  have U_act : C8.Fun K "act" "act" s_act f_act (PySem.W.fnOf "act" "act" (C8.fnArgs s_act) (C8.fnBody s_act) (C8.fnScope s_act) .none kV_act dc_act pm_act an_act cd_act ct_act) := ⟨oc_act, od_act, .none, kV_act, dc_act, pm_act, an_act, cd_act, ct_act, sl_act, rfl, l_act, c_act⟩
  have F_act : C8.Def K mg "act" s_act f_act _ := ⟨U_act, PySem.W.mg_of X G a_act, k_act⟩
  have b_act := U_act.binds rfl (ps := ["reader", "row"]) fun _ _ _ _ _ _ us hl => match us, hl with | [_, _], _ => rfl
  have U_fact : C8.Fun K "first_act" "first_act" s_fact f_fact (PySem.W.fnOf "first_act" "first_act" (C8.fnArgs s_fact) (C8.fnBody s_fact) (C8.fnScope s_fact) .none kV_fact dc_fact pm_fact an_fact cd_fact ct_fact) := ⟨oc_fact, od_fact, .none, kV_fact, dc_fact, pm_fact, an_fact, cd_fact, ct_fact, sl_fact, rfl, l_fact, c_fact⟩
  have F_fact : C8.Def K mg "first_act" s_fact f_fact _ := ⟨U_fact, PySem.W.mg_of X G a_fact, k_fact⟩
  have b_fact := U_fact.binds rfl (ps := ["reader"]) fun _ _ _ _ _ _ us hl => match us, hl with | [_], _ => rfl
  have U_then : C8.Fun K "act_then" "act_then" s_then f_then (PySem.W.fnOf "act_then" "act_then" (C8.fnArgs s_then) (C8.fnBody s_then) (C8.fnScope s_then) .none kV_then dc_then pm_then an_then cd_then ct_then) := ⟨oc_then, od_then, .none, kV_then, dc_then, pm_then, an_then, cd_then, ct_then, sl_then, rfl, l_then, c_then⟩
  have F_then : C8.Def K mg "act_then" s_then f_then _ := ⟨U_then, PySem.W.mg_of X G a_then, k_then⟩
  have b_then := U_then.binds rfl (ps := ["reader", "one", "other"]) fun _ _ _ _ _ _ us hl => match us, hl with | [_, _, _], _ => rfl
  have U_until : C8.Fun K "_walked_until" "_walked_until" s_until f_until (PySem.W.fnOf "_walked_until" "_walked_until" (C8.fnArgs s_until) (C8.fnBody s_until) (C8.fnScope s_until) .none kV_until dc_until pm_until an_until cd_until ct_until) := ⟨oc_until, od_until, .none, kV_until, dc_until, pm_until, an_until, cd_until, ct_until, sl_until, rfl, l_until, c_until⟩
  have F_until : C8.Def K mg "_walked_until" s_until f_until _ := ⟨U_until, PySem.W.mg_of X G a_until, k_until⟩
  have b_until := U_until.binds rfl (ps := ["signs", "begin", "lead", "is_last"]) fun _ _ _ _ _ _ us hl => match us, hl with | [_, _, _, _], _ => rfl
  have U_never : C8.Fun K "_never" "_never" s_never f_never (PySem.W.fnOf "_never" "_never" (C8.fnArgs s_never) (C8.fnBody s_never) (C8.fnScope s_never) .none kV_never dc_never pm_never an_never cd_never ct_never) := ⟨oc_never, od_never, .none, kV_never, dc_never, pm_never, an_never, cd_never, ct_never, sl_never, rfl, l_never, c_never⟩
  have F_never : C8.Def K mg "_never" s_never f_never _ := ⟨U_never, PySem.W.mg_of X G a_never, k_never⟩
  have b_never := U_never.binds rfl (ps := ["thing"]) fun _ _ _ _ _ _ us hl => match us, hl with | [_], _ => rfl
  have U_walked : C8.Fun K "walked" "walked" s_walked f_walked (PySem.W.fnOf "walked" "walked" (C8.fnArgs s_walked) (C8.fnBody s_walked) (C8.fnScope s_walked) .none kV_walked dc_walked pm_walked an_walked cd_walked ct_walked) := ⟨oc_walked, od_walked, .none, kV_walked, dc_walked, pm_walked, an_walked, cd_walked, ct_walked, sl_walked, rfl, l_walked, c_walked⟩
  have F_walked : C8.Def K mg "walked" s_walked f_walked _ := ⟨U_walked, PySem.W.mg_of X G a_walked, k_walked⟩
  have b_walked := U_walked.binds rfl (ps := ["signs", "begin", "lead"]) fun _ _ _ _ _ _ us hl => match us, hl with | [_, _, _], _ => rfl
  have U_actlead : C8.Fun K "_act_lead" "_act_lead" s_actlead f_actlead (PySem.W.fnOf "_act_lead" "_act_lead" (C8.fnArgs s_actlead) (C8.fnBody s_actlead) (C8.fnScope s_actlead) .none kV_actlead dc_actlead pm_actlead an_actlead (.ref cc_actlead) ct_actlead) := ⟨oc_actlead, od_actlead, .none, kV_actlead, dc_actlead, pm_actlead, an_actlead, (.ref cc_actlead), ct_actlead, sl_actlead, rfl, l_actlead, c_actlead⟩
  have F_actlead : C8.Def K mg "_act_lead" s_actlead f_actlead _ := ⟨U_actlead, PySem.W.mg_of X G a_actlead, k_actlead⟩
  have b_actlead := U_actlead.binds rfl (ps := ["table"]) fun _ _ _ _ _ _ us hl => match us, hl with | [_], _ => rfl
  have U_acts : C8.Fun K "acts" "acts" s_acts f_acts (PySem.W.fnOf "acts" "acts" (C8.fnArgs s_acts) (C8.fnBody s_acts) (C8.fnScope s_acts) .none kV_acts dc_acts pm_acts an_acts cd_acts ct_acts) := ⟨oc_acts, od_acts, .none, kV_acts, dc_acts, pm_acts, an_acts, cd_acts, ct_acts, sl_acts, rfl, l_acts, c_acts⟩
  have F_acts : C8.Def K mg "acts" s_acts f_acts _ := ⟨U_acts, PySem.W.mg_of X G a_acts, k_acts⟩
  have b_acts := U_acts.binds rfl (ps := ["reader"]) fun _ _ _ _ _ _ us hl => match us, hl with | [_], _ => rfl
  have U_law : C8.Fun K "law" "law" s_law fa (PySem.W.fnOf "law" "law" (C8.fnArgs s_law) (C8.fnBody s_law) (C8.fnScope s_law) .none kV_law dc_law pm_law an_law cd_law ct_law) := ⟨oc_law, od_law, .none, kV_law, dc_law, pm_law, an_law, cd_law, ct_law, sl_law, rfl, l_law, c_law⟩
  have F_law : C8.Def K mg "law" s_law fa _ := ⟨U_law, PySem.W.mg_of X G a_law, k_law⟩
  have b_law := U_law.binds rfl (ps := ["script"]) fun _ _ _ _ _ _ us hl => match us, hl with | [_], _ => rfl
  have Cl_Reader : Cls K C_Reader := ⟨pg_Reader, hd_Reader, po_Reader, sa_Reader⟩
  have mg_Reader := PySem.W.mg_of X G g_Reader
  have M_Reader : Mk K C_Reader f_init := ⟨mk_Reader, a_init, i_init, kc_Reader⟩
  have tt_actlead : PySem.W.tabIn K "_act_lead" = some (cc_actlead, PP_actlead) := by simp only [PySem.W.tabIn, a_actlead, l_actlead, PySem.W.fnOf, lc_actlead, pv_actlead]
  obtain ⟨er_actlead, hr_actlead⟩ := tr_actlead
  refine ⟨PySem.W.fnOf "law" "law" (C8.fnArgs s_law) (C8.fnBody s_law) (C8.fnScope s_law) .none kV_law dc_law pm_law an_law cd_law ct_law, [(cc_actlead, PP_actlead)], fun p hp => ?_, fun s v => .of_eq rfl, fun base hKb hNb hTB => ?_⟩
  · rw [List.mem_singleton.mp hp]; exact ⟨⟨_, _, tt_actlead, hr_actlead⟩, tn_actlead⟩
  have TB_actlead : LamX.TabB base mg cc_actlead PP_actlead := hTB (cc_actlead, PP_actlead) (by simp)
  have CH : CR K C_Reader := ⟨Cl_Reader, n_Reader_signs, n_Reader_marks, n_Reader_first, n_Reader_steps, n_Reader__numbers, n_Reader__leads, n_Reader__columns⟩
  have c_less := ok_less (P := l.prog) (w := w) (base := base) T F_less b_less
  have c_anyof := ok_any T c_less F_anyof b_anyof
  have c_shaken := ok_shaken T c_less F_shaken b_shaken
  have c_letters := ok_letters T c_less c_anyof F_letters b_letters
  have c_line := ok_line T c_less c_anyof F_line b_line
  have c_flow := ok_flow (P := l.prog) (w := w) (base := base) T F_flow b_flow
  have c_draft := ok_draft T c_less c_anyof c_shaken F_draft b_draft
  have c_isseq := ok_isseq (P := l.prog) (w := w) (base := base) T F_isseq b_isseq
  have c_isrow := ok_isrow (P := l.prog) (w := w) (base := base) T F_isrow b_isrow
  have c_isletters := ok_isletters T mg_az c_isrow F_isletters b_isletters
  have c_issigns := ok_issigns T c_isletters F_issigns b_issigns
  have hNN : ∀ H, SqT K H N_nn (txs no10) := no_names tl_nn
  have c_isname := ok_isname T (PySem.W.mg_of X G tg_nn) hNN c_isletters F_isname b_isname
  have c_ismarks := ok_ismarks T c_isseq c_isname F_ismarks b_ismarks
  have c_istargets := ok_istargets T c_isseq F_istargets b_istargets
  have c_issteps := ok_issteps T c_isseq c_istargets F_issteps b_issteps
  have c_m_num := ok_mnum (P := l.prog) (w := w) (base := base) T CH me_m_num U_m_num b_m_num
  have c_table := ok_table T CH c_m_num F_table b_table
  have c_cols := ok_cols (P := l.prog) (w := w) (base := base) T F_cols b_cols
  have c_Reader := ok_init T CH c_issigns c_ismarks c_issteps c_table c_cols M_Reader mg_Reader U_init b_init
  have c_lreader := ok_lreader T CH mg_Reader c_Reader F_lreader b_lreader
  have c_leads := ok_leads (P := l.prog) (w := w) (base := base) T F_leads b_leads
  have c_deed := ok_deed T c_leads F_deed b_deed
  have c_deeds := ok_deeds T c_deed F_deeds b_deeds
  have c_m_nled := ok_mnled (P := l.prog) (w := w) (base := base) T CH me_m_nled U_m_nled b_m_nled
  have c_marksat := ok_marksat (P := l.prog) (w := w) (base := base) T CH F_marksat b_marksat
  have c_act := ok_act T CH c_isrow c_m_nled c_marksat F_act b_act
  have c_fact := ok_fact (P := l.prog) (w := w) (base := base) T CH F_fact b_fact
  have c_then := ok_then T CH c_m_num F_then b_then
  have up := fun c w0 sp base' => up_walkedE (P := l.prog) (w := w) T F_never b_never F_until b_until F_walked b_walked c w0 sp base'
  have c_actlead := ok_actlead (P := l.prog) (w := w) (base := base) (TT := ttOf [(cc_actlead, PP_actlead)]) T TB_actlead (List.mem_singleton.mpr rfl) rfl (fun p hp _ => by rw [List.mem_singleton.mp hp]) F_actlead rfl b_actlead
  have c_acts := ok_acts T CH c_table c_actlead c_marksat F_walked up F_acts b_acts
  exact ok_law T CH c_flow c_letters c_draft c_lreader c_line c_act c_deed c_then c_deeds c_acts c_fact c_anyof F_law
theorem walk {l : PySem.W.OpenLaw} {q : Program} {loose : List Str} {XP : (Str → Option Value) → Heap → Prop} {YP : World → Heap → Prop} {d : DefRec} {K : Params → PySem.W.Frag} (hn : l.most = some 63) (hdf : d.params.defaults = [])
    (hY : ∀ (w : World) (h : Heap), YP w h → (K w.params).In h)
    (F : ∀ (w : World) (mg : Str → Option Value) (fa : Addr) (h : Heap), (K w.params).In h → h.Ns mainGlobals mg → mg d.name = some (.ref fa) →
      ∃ (fd : FuncData) (tt : List (Addr × Addr)), (∀ p ∈ tt, (∃ (nm : Str) (e : DefRec), PySem.W.tabIn (K w.params) nm = some p ∧ (PyProof.Rows.recsOf q).find? (fun e => e.name == nm) = some e) ∧ (K w.params).lookup p.2 = none) ∧ (∀ (s : Shared) (u : Value), BindsTo s fd ⟨[u], []⟩ [("script", u)]) ∧ ∀ base : Heap, (K w.params).In base → base.Ns mainGlobals mg → (∀ p ∈ tt, LamX.TabB base mg p.1 p.2) → FnG l.prog w (K w.params) mg base 8 fa fd ["script"] (spLaw (ttOf tt) (K w.params))) :
    PySem.W.WalkO q loose XP YP l.row.toRowW d [] (fun f vs => PySem.call f vs) :=
  walkGT (n := 63) (k := 8) (x := "script") (sp := fun K tt => spLaw (ttOf tt) K) hn (by decide) hdf ⟨rfl, by decide, by decide⟩ hY F fun K tt H a ns hl ht hS => ⟨a, ns, rfl, hS, hl, fun p hp => by
    obtain ⟨e, he, rfl⟩ := List.mem_map.mp hp
    exact NdefX.TabN.nil (ht e he), fun _ => rfl⟩
end Toy
open PySem PySem.W PyProof.Rows in
set_option maxRecDepth 100000 in
set_option maxHeartbeats 0 in
theorem PySem.Challenge.cw_allrows_k21_acts_of_rows_holds : PySem.Challenge.rw_allrows_k21_acts_of_rows.Holds := by
  w_on; o_law; k_head; (case hw => w_witness2)
  k_fill
  refine Toy.walk (l := PySem.Challenge.rw_allrows_k21_acts_of_rows) rfl rfl (fun w h Y => Y.1) ?F
  case F =>
    intro w mg fa h KX G hmg
    refine' Toy.all_mk KX G hmg ?tg_nn ?tl_nn ?tr_actlead ?q_az ?g_Reader ?pg_Reader ?hd_Reader ?po_Reader ?sa_Reader ?kc_Reader ?n_Reader_signs ?n_Reader_marks ?n_Reader_first ?n_Reader_steps ?n_Reader__numbers ?n_Reader__leads ?n_Reader__columns ?mk_Reader ?a_flow ?l_flow ?c_flow ?k_flow ?a_less ?l_less ?c_less ?k_less ?a_anyof ?l_anyof ?c_anyof ?k_anyof ?a_shaken ?l_shaken ?c_shaken ?k_shaken ?a_letters ?l_letters ?c_letters ?k_letters ?a_draft ?l_draft ?c_draft ?k_draft ?a_lreader ?l_lreader ?c_lreader ?k_lreader ?a_leads ?l_leads ?c_leads ?k_leads ?a_deed ?l_deed ?c_deed ?k_deed ?a_line ?l_line ?c_line ?k_line ?a_deeds ?l_deeds ?c_deeds ?k_deeds ?a_isseq ?l_isseq ?c_isseq ?k_isseq ?a_isrow ?l_isrow ?c_isrow ?k_isrow ?a_isletters ?l_isletters ?c_isletters ?k_isletters ?a_issigns ?l_issigns ?c_issigns ?k_issigns ?a_isname ?l_isname ?c_isname ?k_isname ?a_ismarks ?l_ismarks ?c_ismarks ?k_ismarks ?a_istargets ?l_istargets ?c_istargets ?k_istargets ?a_issteps ?l_issteps ?c_issteps ?k_issteps ?a_m_num ?i_m_num ?l_m_num ?c_m_num ?k_m_num ?a_table ?l_table ?c_table ?k_table ?a_cols ?l_cols ?c_cols ?k_cols ?a_init ?i_init ?l_init ?c_init ?k_init ?a_m_nled ?i_m_nled ?l_m_nled ?c_m_nled ?k_m_nled ?a_marksat ?l_marksat ?c_marksat ?k_marksat ?a_act ?l_act ?c_act ?k_act ?a_fact ?l_fact ?c_fact ?k_fact ?a_then ?l_then ?c_then ?k_then ?a_until ?l_until ?c_until ?k_until ?a_never ?l_never ?c_never ?k_never ?a_walked ?l_walked ?c_walked ?k_walked ?a_actlead ?l_actlead ?lc_actlead ?pv_actlead ?tn_actlead ?c_actlead ?k_actlead ?a_acts ?l_acts ?c_acts ?k_acts ?a_law ?l_law ?c_law ?k_law ?z_int ?z_len ?z_abs ?z_str ?z_list ?z_tuple ?z_dict ?z_set ?z_isinstance ?z_all ?z_zip ?z_enumerate ?z_range ?z_max ?z_min ?z_sorted ?z_repr
    (case tg_nn => k_is)
    (case tl_nn => k_is)
    (case tr_actlead => exact ⟨_, rfl⟩)
    (case q_az => k_is)
    (case g_Reader => k_is)
    (case pg_Reader => k_is)
    (case hd_Reader => k_is)
    (case po_Reader => k_is)
    (case sa_Reader => k_is)
    (case kc_Reader => k_is)
    (case n_Reader_signs => k_is)
    (case n_Reader_marks => k_is)
    (case n_Reader_first => k_is)
    (case n_Reader_steps => k_is)
    (case n_Reader__numbers => k_is)
    (case n_Reader__leads => k_is)
    (case n_Reader__columns => k_is)
    (case mk_Reader => k_is)
    (case a_flow => k_is)
    (case l_flow => k_is)
    (case c_flow => k_is)
    (case k_flow => k_is)
    (case a_less => k_is)
    (case l_less => k_is)
    (case c_less => k_is)
    (case k_less => k_is)
    (case a_anyof => k_is)
    (case l_anyof => k_is)
    (case c_anyof => k_is)
    (case k_anyof => k_is)
    (case a_shaken => k_is)
    (case l_shaken => k_is)
    (case c_shaken => k_is)
    (case k_shaken => k_is)
    (case a_letters => k_is)
    (case l_letters => k_is)
    (case c_letters => k_is)
    (case k_letters => k_is)
    (case a_draft => k_is)
    (case l_draft => k_is)
    (case c_draft => k_is)
    (case k_draft => k_is)
    (case a_lreader => k_is)
    (case l_lreader => k_is)
    (case c_lreader => k_is)
    (case k_lreader => k_is)
    (case a_leads => k_is)
    (case l_leads => k_is)
    (case c_leads => k_is)
    (case k_leads => k_is)
    (case a_deed => k_is)
    (case l_deed => k_is)
    (case c_deed => k_is)
    (case k_deed => k_is)
    (case a_line => k_is)
    (case l_line => k_is)
    (case c_line => k_is)
    (case k_line => k_is)
    (case a_deeds => k_is)
    (case l_deeds => k_is)
    (case c_deeds => k_is)
    (case k_deeds => k_is)
    (case a_isseq => k_is)
    (case l_isseq => k_is)
    (case c_isseq => k_is)
    (case k_isseq => k_is)
    (case a_isrow => k_is)
    (case l_isrow => k_is)
    (case c_isrow => k_is)
    (case k_isrow => k_is)
    (case a_isletters => k_is)
    (case l_isletters => k_is)
    (case c_isletters => k_is)
    (case k_isletters => k_is)
    (case a_issigns => k_is)
    (case l_issigns => k_is)
    (case c_issigns => k_is)
    (case k_issigns => k_is)
    (case a_isname => k_is)
    (case l_isname => k_is)
    (case c_isname => k_is)
    (case k_isname => k_is)
    (case a_ismarks => k_is)
    (case l_ismarks => k_is)
    (case c_ismarks => k_is)
    (case k_ismarks => k_is)
    (case a_istargets => k_is)
    (case l_istargets => k_is)
    (case c_istargets => k_is)
    (case k_istargets => k_is)
    (case a_issteps => k_is)
    (case l_issteps => k_is)
    (case c_issteps => k_is)
    (case k_issteps => k_is)
    (case a_m_num => k_is)
    (case i_m_num => k_is)
    (case l_m_num => k_is)
    (case c_m_num => k_is)
    (case k_m_num => k_is)
    (case a_table => k_is)
    (case l_table => k_is)
    (case c_table => k_is)
    (case k_table => k_is)
    (case a_cols => k_is)
    (case l_cols => k_is)
    (case c_cols => k_is)
    (case k_cols => k_is)
    (case a_init => k_is)
    (case i_init => k_is)
    (case l_init => k_is)
    (case c_init => k_is)
    (case k_init => k_is)
    (case a_m_nled => k_is)
    (case i_m_nled => k_is)
    (case l_m_nled => k_is)
    (case c_m_nled => k_is)
    (case k_m_nled => k_is)
    (case a_marksat => k_is)
    (case l_marksat => k_is)
    (case c_marksat => k_is)
    (case k_marksat => k_is)
    (case a_act => k_is)
    (case l_act => k_is)
    (case c_act => k_is)
    (case k_act => k_is)
    (case a_fact => k_is)
    (case l_fact => k_is)
    (case c_fact => k_is)
    (case k_fact => k_is)
    (case a_then => k_is)
    (case l_then => k_is)
    (case c_then => k_is)
    (case k_then => k_is)
    (case a_until => k_is)
    (case l_until => k_is)
    (case c_until => k_is)
    (case k_until => k_is)
    (case a_never => k_is)
    (case l_never => k_is)
    (case c_never => k_is)
    (case k_never => k_is)
    (case a_walked => k_is)
    (case l_walked => k_is)
    (case c_walked => k_is)
    (case k_walked => k_is)
    (case a_actlead => k_is)
    (case l_actlead => k_is)
    (case lc_actlead => k_is)
    (case pv_actlead => rfl)
    (case tn_actlead => kernel_rfl)
    (case c_actlead => k_is)
    (case k_actlead => k_is)
    (case a_acts => k_is)
    (case l_acts => k_is)
    (case c_acts => k_is)
    (case k_acts => k_is)
    (case a_law => k_is)
    (case l_law => k_is)
    (case c_law => k_is)
    (case k_law => k_is)
    (case z_int => k_is)
    (case z_len => k_is)
    (case z_abs => k_is)
    (case z_str => k_is)
    (case z_list => k_is)
    (case z_tuple => k_is)
    (case z_dict => k_is)
    (case z_set => k_is)
    (case z_isinstance => k_is)
    (case z_all => k_is)
    (case z_zip => k_is)
    (case z_enumerate => k_is)
    (case z_range => k_is)
    (case z_max => k_is)
    (case z_min => k_is)
    (case z_sorted => k_is)
    (case z_repr => k_is)
