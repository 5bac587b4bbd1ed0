import PyProof.Rows.All
import Wide.All
import OpenK.AllK
import Wide.FinOn
import Lean
import PyProof.EqAt
import PyProof.EqKinds
import PyProof.TupleCall
import PyProof.ZipIter
import PyProof.Rows.ZipGen
import PyProof.DictCompW
import KE.KRevIter
import PyProof.StrCalls2
import PyProof.StrWalks
import PyProof.Rows.StrItems
import PyProof.StrLawsTight
import PyProof.Rows.SetFrom
import PyProof.CollectIter
import PyProof.FactsAll.set
import PyProof.StationsW
import PyProof.ExcClass3
import PyProof.RulesAs
import OpenK.KRaise
import PyProof.ExcBaseAll.ValueError
import OpenK.KOwn
import PyProof.NsDelKeeps
import PyProof.ExcArgsOwn
import PyProof.ExcAttrAll.ValueError
import PyProof.IsiBase
import KE.KIsAll
import PyProof.ExcNew
import PyProof.ExcFactsAll.ValueError
import PyProof.ListRange
import PyProof.ReprRoads
import PyProof.ReprLen
import PyProof.P3In
import PyProof.NeData
import PyProof.Rows.SortWalk
import PyProof.AutoRange
import PyProof.FactsAll.range_2
import PyProof.MeetsSeq
import PyProof.FactsAll.list_3
import PyProof.Rows.Range3
import PyProof.AttrMissHeap
import PyProof.FactsAll.enumerate_0
import PyProof.FactsAll.enumerate_1
import KE.KDictOf
import PyProof.DictRoadsH
import PyProof.MeetsDict
import PyProof.DictCalls
import PyProof.Rows.SortShell
import PyProof.StrBlockI
import PyProof.StrBlock2
import PyProof.DictTruth
import KE.KUnpack
import PyProof.TupleIter
import KE.KTab
import KE.KUnpackStar
import KE.KIntText
import PySem.Challenge.RW_mirrorsums_k47_desk_answers
namespace L2
open Lean
def mM(h:Array Syntax)(s:String):Syntax:=(((("~_root_.L2.;*') 3&paren;@'( %[anonymous] 1hygieneInfo 2&hygienicLParen;`1null 2&app 2#refine^ 2group;{2null 2&app 2#refine^ 2group;} '? '_ 2&syntheticHole;^ 1null 1#tacticSeq1Indented 1#tacticSeq;#Lean.Parser.Tactic.;&Lean.Parser.Term.".splitOn ";").foldl (fun s x=>s.replace (x.take 1).toString (x.drop 1).toString) s).splitOn " ").foldl (fun l w=>let x:=(w.drop 1).toString;let n:=w.front.toNat-48;(match n with|0=>if w.front=='%' then mkIdent x.toName else if w.front=='$' then h.getD (x.length-1) .missing else if w.front=='0' then .node .none x.toName #[] else .atom .none x|_=>.node .none x.toName (l.take n).reverse.toArray)::l.drop n) []).headD .missing
end L2
local macro_rules|`(tactic|decide)=>pure (L2.mM #[] "'( 'decide '+ %kernel 2#posConfigItem 1#configItem 1null 1#optConfig 2#decide^ ') 3#paren")
abbrev zd:=@List.length_map
abbrev zg:=@List.getElem?_eq_getElem
abbrev zh:=@PySem.wpAny_bind
abbrev zi:=@if_neg
abbrev zj:=@List.length_append
abbrev zm:=@if_pos
abbrev zn:=@List.getD_eq_getElem?_getD
abbrev zo:=@List.mem_cons_self
abbrev zp:=@List.mem_cons_of_mem
abbrev zr:=@List.mem_cons
abbrev zt:=@List.getElem?_eq_some_iff
abbrev zu:=@PySem.Heap.get?_push_of_some
abbrev zx:=@Nat.le_refl
abbrev zy:=@List.getElem?_set_ne
abbrev zA:=@List.mem_singleton
abbrev zB:=@Int.mul_le_mul_of_nonneg_right
abbrev zC:=@PySem.wpAny_pure
abbrev zD:=@PySem.Heap.get?_push_size
abbrev zE:=@List.length_replicate
abbrev zF:=@PySem.Heap.lt_size
abbrev zG:=@List.size_toArray
abbrev zH:=@List.length_cons
abbrev zI:=@Nat.lt_of_lt_of_le
abbrev zJ:=@Int.pow_succ
abbrev zK:=@Nat.ne_of_lt
abbrev zL:=@PySem.PassesOwn.never
abbrev zM:=@List.getElem?_set_self
abbrev zN:=@List.mem_append
abbrev zO:=@List.getElem?_map
abbrev zP:=@List.getElem?_append_left
abbrev zQ:=@Nat.le_trans
abbrev zR:=@Int.eq_ofNat_of_zero_le
abbrev zS:=@List.forall_mem_cons
abbrev zT:=@List.replicate_succ
abbrev zU:=@List.getElem?_replicate
abbrev zV:=@List.lookup_cons
abbrev zW:=@List.append_nil
abbrev zX:=@PyProof.Rows.callWith_type1
abbrev zY:=@decide_eq_false
abbrev zZ:=@List.getElem?_append_right
abbrev y9:=@Nat.add_sub_cancel
abbrev ya:=@PySem.wpAny_holding
abbrev yb:=@List.mem_map
abbrev yc:=@List.length_set
abbrev yd:=@List.length_singleton
abbrev ye:=@Nat.zero_le
abbrev yf:=@List.map_append
abbrev yg:=@Option.some.inj
abbrev yh:=@List.getElem_mem
abbrev yi:=@List.mem_reverse
abbrev yj:=@decide_eq_true
abbrev yl:=@decide_eq_true_eq
abbrev ym:=@Bool.false_ne_true
abbrev yn:=@congrArg
abbrev yo:=@Bool.and_eq_true
abbrev yp:=@Int.mul_le_mul_of_nonneg_left
abbrev yq:=@List.nodup_cons
abbrev yr:=@List.reverse_cons
abbrev yt:=@beq_eq_false_iff_ne
abbrev yu:=@List.map_cons
abbrev yw:=@Int.le_trans
abbrev yx:=@Int.le_refl
abbrev yy:=@PySem.wpAny_truthy_bool
abbrev yz:=@List.mem_append_right
abbrev yA:=@Int.emod_lt_of_pos
abbrev yB:=@List.getElem?_drop
abbrev yC:=@List.all_eq_true
abbrev yD:=@List.length_take
abbrev yE:=@List.mem_of_getElem?
abbrev yF:=@Array.getElem?_eq_some_iff
abbrev yG:=@Int.mul_comm
abbrev yH:=@List.append_assoc
abbrev yI:=@List.reverse_append
abbrev yJ:=@List.not_mem_nil
abbrev yK:=@Int.mul_le_mul
abbrev yL:=@List.dropLast_concat_getLast
abbrev yM:=@List.mem_append_left
abbrev yN:=@Int.emod_nonneg
abbrev yO:=@Option.isSome_iff_exists
abbrev yP:=@List.length_reverse
abbrev yQ:=@PySem.W.hideAll_get
abbrev yR:=@PySem.mem_of_lookup
abbrev yS:=@PySem.Heap.get?_update_other
abbrev yT:=@PySem.wpAny_mono
abbrev yU:=@List.length_drop
abbrev yV:=@PySem.wpAny_Call_Name_kw
abbrev yW:=@PySem.W.hideAll_none
abbrev yX:=@List.flatten_cons
abbrev yY:=@of_decide_eq_true
abbrev yZ:=@PySem.wpAny_loadPart_at
abbrev x6:=@Nat.toDigits_of_lt_base
abbrev x8:=@Int.ediv_le_ediv
abbrev x9:=@List.nodup_nil
abbrev xa:=@PySem.call_meets
abbrev xb:=@PySem.W.mg_none_of
abbrev xc:=@Int.add_comm
abbrev xd:=@Int.lt_trans
abbrev xf:=@Nat.lt_trans
abbrev xg:=@PySem.Obj.data_mapFields
abbrev xh:=@PySem.W.callWith_K
abbrev xi:=@PySem.wpAny_passesOwn
abbrev xj:=@List.any_cons
abbrev xk:=@List.sum_cons
abbrev xl:=@List.mem_of_mem_take
abbrev xm:=@Int.one_mul
abbrev xn:=@PySem.sizeLine_eq
abbrev xo:=@PySem.Heap.size_push
abbrev xp:=@Array.all_toList
abbrev xq:=@Int.add_zero
abbrev xr:=@List.map_reverse
abbrev xt:=@Nat.le_of_lt
abbrev xu:=@Array.length_toList
abbrev xv:=@List.getElem_of_mem
abbrev xw:=@Nat.lt_irrefl
abbrev xx:=@PySem.wpAny_standAt
abbrev xy:=@List.nil_append
abbrev xz:=@Int.pow_add
abbrev xA:=@PySem.wpAny_field
abbrev xB:=@Int.toNat_natCast
abbrev xC:=@Int.pow_zero
abbrev xE:=@Int.zero_add
abbrev xF:=@Nat.le_of_not_lt
abbrev xG:=@Option.bind_some
abbrev xH:=@Int.mul_assoc
abbrev xI:=@PySem.wpAny_execs_nil
local macro_rules|`(tactic|omega)=>pure (L2.mM #[] "'( 'lia 0null 1#optConfig 2#lia^ ') 3#paren")
local macro_rules|`(tactic|cases $h:ident)=>pure (L2.mM #[h] "'( 'first '| '( 'injection $a 'with $a 1null 2null 3#injection '; 'done 1#done 3null 1#tacticSeq1Indented 1#tacticSeq ') 3#paren^ 2group '| 'subst $a 1null 2#subst^ 2group '| '( 'injection $a 'with $a 1null 2null 3#injection '; 'injection $a 'with $a 1null 2null 3#injection '; 'done 1#done 5null 1#tacticSeq1Indented 1#tacticSeq ') 3#paren^ 2group '| '( 'injection $a 'with $a 1null 2null 3#injection '; 'subst $a 1null 2#subst 3null 1#tacticSeq1Indented 1#tacticSeq ') 3#paren^ 2group '| '( 'injection $a 'with $a 1null 2null 3#injection '; 'injection $a 'with $a 1null 2null 3#injection '; 'subst $a 1null 2#subst 5null 1#tacticSeq1Indented 1#tacticSeq ') 3#paren^ 2group '| '( 'injection $a 'with $a 1null 2null 3#injection '; 'injection $a 'with $a 1null 2null 3#injection '; 'injection $a 'with $a 1null 2null 3#injection '; 'subst $a 1null 2#subst 7null 1#tacticSeq1Indented 1#tacticSeq ') 3#paren^ 2group '| 'cases 0null @ $a * 2#elimTarget 1null 0null 0null 4#cases^ 2group 7null 2#first^ ') 3#paren")
set_option Elab.async false
set_option linter.all false
set_option maxRecDepth 100000
set_option maxHeartbeats 4000000
namespace L2
open PySem PySem.Spec PyProof.Rows
abbrev Key:=Sum Int Str
def uo:Key->Value->Bool
 | .inl k,v=>Value.isInt k v
 | .inr x,v=>Value.isStrOf x v
def acQ (w:World):Key->Int
 | .inl k=>hashInt k
 | .inr x=>hashStr w x
theorem cC:∀{k:Key} {v:Value},uo k v=true->(∃i t,k=Sum.inl i/\v=Value.int i t)\/(∃x t,k=Sum.inr x/\v=Value.str x t)
 | .inl i,v,h=>by
  obtain ⟨t,e⟩:=Value.isInt_shape (k:=i) (v:=v) h
  exact .inl ⟨i,t,rfl,e⟩
 | .inr x,v,h=>by
  obtain ⟨t,e⟩:=Value.isStrOf_shape (x:=x) (v:=v) h
  exact .inr ⟨x,t,rfl,e⟩
theorem G9 (i:Int) (t:Tok):uo (.inl i) (.int i t)=true:=by simp [uo,Value.isInt]
theorem G_ (x:Str) (t:Tok):uo (.inr x) (.str x t)=true:=by simp [uo,Value.isStrOf]
theorem Ve (a b:Int):decide ((Sum.inl a:Key)=Sum.inl b)=(a == b):=by
 by_cases e:a=b
 ·subst e;simp
 ·have h:¬(Sum.inl a:Key)=Sum.inl b:=λq=>e (Sum.inl.inj q)
  rw [zY h]
  exact (yt.mpr e).symm
theorem Vf (a b:Str):decide ((Sum.inr a:Key)=Sum.inr b)=decide (a=b):=by
 by_cases e:a=b
 ·subst e;simp
 ·have h:¬(Sum.inr a:Key)=Sum.inr b:=λq=>e (Sum.inr.inj q)
  rw [zY h,zY e]
theorem Vg (a:Int) (b:Str):decide ((Sum.inl a:Key)=Sum.inr b)=false:=zY (λq=>nomatch q)
theorem Vh (a:Str) (b:Int):decide ((Sum.inr a:Key)=Sum.inl b)=false:=zY (λq=>nomatch q)
def gR (prog:Program) (w:World):PySem.KeyKind prog w Key where
 is:=uo
 hash:=acQ w
 inj:=λv a b D z=>by
  rcases cC D with ⟨i,t,rfl,rfl⟩|⟨x,t,rfl,rfl⟩
  ·rcases cC z with ⟨j,u,rfl,e⟩|⟨y,u,rfl,e⟩
   ·injection e with e1 _;rw [e1]
   ·exact nomatch e
  ·rcases cC z with ⟨j,u,rfl,e⟩|⟨y,u,rfl,e⟩
   ·exact nomatch e
   ·injection e with e1 _;rw [e1]
 byValue:=λk v h=>by
  rcases cC h with ⟨i,t,rfl,rfl⟩|⟨x,t,rfl,rfl⟩<;>rfl
 pyHash:=λn h=>by
  rcases cC n with ⟨i,t,rfl,rfl⟩|⟨x,t,rfl,rfl⟩
  ·exact wpAny_pyHash_int h
  ·exact wpAny_pyHash_str h
 eqBool:=λB n h=>by
  rcases cC B with ⟨i,t,rfl,rfl⟩|⟨x,t,rfl,rfl⟩
  ·rcases cC n with ⟨j,u,rfl,rfl⟩|⟨y,u,rfl,rfl⟩
   ·rw [Ve] at h;exact wpAny_eqBool_int h
   ·rw [Vg] at h;exact SeqAt.EqAt.int_str i t y u _ _ _ _ h
  ·rcases cC n with ⟨j,u,rfl,rfl⟩|⟨y,u,rfl,rfl⟩
   ·rw [Vh] at h;exact SeqAt.EqAt.str_int x t j u _ _ _ _ h
   ·rw [Vf] at h;exact wpAny_eqBool_str h
 «strs»:=λk x t v h=>by
  rcases cC h with ⟨i,u,rfl,e⟩|⟨y,u,rfl,e⟩
  ·exact nomatch e
  ·injection e with e1 _
   subst e1
   cases v<;>rfl
theorem xO (prog:Program) (w:World) (i:Int) (t:Tok):(gR prog w).is (.inl i) (.int i t)=true:=G9 i t
theorem xP (prog:Program) (w:World) (x:Str) (t:Tok):(gR prog w).is (.inr x) (.str x t)=true:=G_ x t
inductive V where
 | non|bl (b:Bool)|int (i:Int)|str (x:Str)|ref (a:Addr)|ty (n:String)
 deriving DecidableEq
def RelV:V->Value->Prop
 | .non,u=>u=Value.none
 | .bl b,u=>u=Value.bool b
 | .int i,u=>∃t,u=Value.int i t
 | .str x,u=>∃t,u=Value.str x t
 | .ref a,u=>u=Value.ref a
 | .ty n,u=>u=Value.type n
abbrev Vals:List V->List Value->Prop:=Paired RelV
theorem Vals.length {xs:List V} {us:List Value} (r:Vals xs us):xs.length=us.length:=Paired.length r
theorem Vals.get:∀{xs:List V} {n:List Value} {i:Nat} {x:V},Vals xs n->xs[i]? = some x->∃u,n[i]? = some u/\RelV x u
 | _,_,_,_,.nil,e=>by simp at e
 | _,_,0,_,.cons r _,e=>by simp at e;subst e;exact ⟨_,rfl,r⟩
 | _,_,i+1,x,.cons _ t,e=>by
  obtain ⟨u,h1,h2⟩:=Vals.get (i:=i) (x:=x) t (by simpa using e)
  exact ⟨u,by simpa using h1,h2⟩
theorem Vals.set (r:RelV x u):∀{xs:List V} {n:List Value} (i:Nat),Vals xs n->Vals (xs.set i x) (n.set i u)
 | _,_,_,.nil=>.nil
 | _,_,0,.cons _ t=>.cons r t
 | _,_,i+1,.cons q t=>.cons q (Vals.set r i t)
theorem Vals.append:∀{xs ys:List V} {z n:List Value},Vals xs z->Vals ys n->Vals (xs++ys) (z++n)
 | _,_,_,_,.nil,s=>s
 | _,_,_,_,.cons r t,s=>.cons r (Vals.append t s)
theorem Vals.take:∀{xs:List V} {z:List Value} (n:Nat),Vals xs z->Vals (xs.take n) (z.take n)
 | _,_,0,_=>.nil
 | _,_,_+1,.nil=>.nil
 | _,_,n+1,.cons r t=>.cons r (Vals.take n t)
theorem Vals.drop:∀{xs:List V} {z:List Value} (n:Nat),Vals xs z->Vals (xs.drop n) (z.drop n)
 | _,_,0,r=>r
 | _,_,_+1,.nil=>.nil
 | _,_,n+1,.cons _ t=>Vals.drop n t
def oX:Option V->Option Value->Prop
 | some v,some u=>RelV v u
 | none,none=>True
 | _,_=>False
def KV {κ:Type}:List (κ × V)->List (κ × Value)->Prop:=Paired λ(p:κ × V) (q:κ × Value)=>p.1=q.1/\RelV p.2 q.2
def kV:Key->V
 | .inl i=>.int i
 | .inr x=>.str x
inductive HO where
 | lst (xs:List V)
 | tup (xs:List V)
 | dK (kvs:List (Key × V))
 | ins (C dx:Addr) (fs:List (Str × V))
 | own (x:Addr)
 | Cw (o:Obj) (u:HO)
 | ext (φ:Heap->Prop)
abbrev Hp:=Addr->Option HO
def upd (H:Hp) (a:Addr) (o:HO):Hp:=λb=>if b=a then some o else H b
theorem aJ {H:Hp} {a:Addr} {o:HO}:upd H a o a=some o:=by unfold upd;rw [zm rfl]
theorem az {H:Hp} {a b:Addr} {o:HO} (h:b≠a):upd H a o b=H b:=by unfold upd;rw [zi h]
theorem Qe:upd (upd H a o) a u=upd H a u:=by
 funext b;unfold upd;split<;>rfl
theorem bC {H:Hp} {a b:Addr} {o:HO} (h:H a=some o) (h':H b=none):a≠b:=by
 intro e;subst e;rw [h] at h';cases h'
section
variable (P:Program) (w:World)
def bN (H:Hp) (h:Heap) (a:Addr):HO->Prop
 | .lst xs=>xs.length<=sizeLine/\∃(z:List Value) (n:Nat),Vals xs z/\h.get? a=some { cls:=.type "list",data:=.seq z.toArray n }
 | .tup xs=>xs.length<=sizeLine/\∃z:List Value,Vals xs z/\IsTup h a z.toArray
 | .dK kvs=>kvs.length<=sizeLine/\(a == sysModules)=false/\∃vs,KV kvs vs/\h.DictOf (gR P w) a vs
 | .ins C dx fs=>H dx=some (.own a)/\fs.length<=1000/\dx≠a/\h.get? a=some (PySem.W.instObj C dx) /\
   ∃mA,h.Ns1 dx mA/\(∀f,oX (fs.lookup f) (mA f))/\PySem.Within mA (fs.map (·.1))
 | .own _=>∃o,h.get? a=some o
 | .Cw o u=>h.get? a=some o/\bN H h a u
 | .ext φ=>φ h/\(∃o,h.get? a=some o)/\∀h1 h2:Heap,φ h1->(∀o,h1.get? a=some o->h2.get? a=some o)->φ h2
def jO (H:Hp) (h:Heap):Prop:=∀a o,H a=some o->bN P w H h a o
end
section
variable {P:Program} {w:World} {H H':Hp} {h h':Heap} {a:Addr} {o:HO}
theorem bN.lt (x:bN P w H h a o):a<h.objs.size:=by
 cases o with
 | lst xs=>obtain ⟨_,_,_,_,e⟩:=x;exact zF e
 | tup xs=>obtain ⟨_,_,_,p⟩:=x;exact p.lt
 | dK kvs=>obtain ⟨_,_,_,_,o,_,_,e,_⟩:=x;exact zF e
 | ins C dx fs=>obtain ⟨_,_,_,e,_⟩:=x;exact zF e
 | own y=>obtain ⟨_,e⟩:=x;exact zF e
 | Cw ob u=>obtain ⟨e,_⟩:=x;exact zF e
 | ext φ=>obtain ⟨_,⟨_,e⟩,_⟩:=x;exact zF e
theorem bN.stay (x:bN P w H h a o) (k:∀b u,(b=a\/H b=some (.own a))->h.get? b=some u->h'.get? b=some u)
  (O:∀b,H b=some (.own a)->H' b=some (.own a)):bN P w H' h' a o:=by
 induction o with
 | lst xs=>obtain ⟨z,B,n,r,e⟩:=x;exact ⟨z,B,n,r,k _ _ (.inl rfl) e⟩
 | tup xs=>obtain ⟨z,B,r,D,e,c⟩:=x;exact ⟨z,B,r,D,k _ _ (.inl rfl) e,c⟩
 | dK kvs=>obtain ⟨z,y,vs,r,D,es,I,e,c⟩:=x;exact ⟨z,y,vs,r,D,es,I,k _ _ (.inl rfl) e,c⟩
 | ins C dx fs=>
  obtain ⟨d,z,ne,e,mA,⟨J,es,I,e2,c⟩,r⟩:=x
  exact ⟨O _ d,z,ne,k _ _ (.inl rfl) e,mA,⟨J,es,I,k _ _ (.inr d) e2,c⟩,r⟩
 | own y=>obtain ⟨D,e⟩:=x;exact ⟨D,k _ _ (.inl rfl) e⟩
 | Cw D u ih=>obtain ⟨e,q⟩:=x;exact ⟨k _ _ (.inl rfl) e,ih q⟩
 | ext φ=>obtain ⟨p,⟨o,e⟩,st⟩:=x;exact ⟨st _ _ p λo q=>k _ _ (.inl rfl) q,⟨o,k _ _ (.inl rfl) e⟩,st⟩
theorem jO.lt (x:jO P w H h) (e:H a=some o):a<h.objs.size:=(x a o e).lt
theorem jO.fresh (x:jO P w H h) (e:h.objs.size<=a):H a=none:=by
 cases q:H a with
 | none=>rfl
 | some u=>exact absurd (zI (x.lt q) e) (xw _)
theorem jO.track (x:jO P w H h) (z:H a=none) (new:bN P w (upd H a o) h a o):jO P w (upd H a o) h:=λb u e=>by
 by_cases n:b=a
 ·subst n;rw [aJ] at e;cases e;exact new
 ·rw [az n] at e
  exact (x b u e).stay (λ_ _ _ q=>q) λc q=>by rw [az (bC q z)];exact q
theorem jO.moved {ch:List Addr} (x:jO P w H h) (B:∀b∈ch,H b=none) (k:∀b u,b ∉ ch->h.get? b=some u->h'.get? b=some u):jO P w H h':=λb u e=>
 (x b u e).stay (λc v n q=>k c v (λz=>by
  rcases n with rfl|n
  ·rw [B _ z] at e;cases e
  ·rw [B _ z] at n;cases n) q) λ_ q=>q
theorem jO.kept (x:jO P w H h) (k:∀b u,h.get? b=some u->h'.get? b=some u):jO P w H h':=x.moved (ch:=[]) (λ_ z=>nomatch z) λb u _ q=>k b u q
theorem jO.laid (x:jO P w H h) (k:∀b u,h.get? b=some u->h'.get? b=some u) (n:h.objs.size<=a) (new:bN P w (upd H a o) h' a o):jO P w (upd H a o) h':=(x.kept k).track (x.fresh n) new
end
def Rd (H:Hp) (a:Addr) (u:HO):Prop:=H a=some u\/∃o,H a=some (.Cw o u)
theorem Rd.ok {P:Program} {w:World} {H:Hp} {h:Heap} {a:Addr} {u:HO} (r:Rd H a u) (x:jO P w H h):bN P w H h a u:=by
 rcases r with r|⟨o,r⟩
 ·exact x a u r
 ·obtain ⟨_,q⟩:=x a _ r
  exact q
def Zk:Option HO->Prop
 | some (.lst _)=>True
 | some (.dK _)=>True
 | some (.ins _ _ _)=>True
 | some (.ext _)=>True
 | _=>False
section
variable {P:Program} {w:World} {H:Hp} {h h':Heap} {x e:Addr} {o':HO}
theorem jO.write (ok:jO P w H h) (mu:Zk (H x)) (he:e=x\/H e=some (.own x)) (k:∀b u,b≠e->h.get? b=some u->h'.get? b=some u) (J:∃u,h'.get? e=some u)
  (new:bN P w (upd H x o') h' x o'):jO P w (upd H x o') h':=λb u q=>by
 have B:∀c y,H c=some (.own y)->c≠x:=λc y r z=>by subst z;rw [r] at mu;exact mu
 by_cases I:b=x
 ·subst I;rw [aJ] at q;cases q;exact new
 ·rw [az I] at q
  by_cases n:b=e
  ·have q':H b=some (.own x):=by
    rcases he with z|z
    ·exact absurd (n.trans z) I
    ·rw [n];exact z
   rw [q] at q';cases q'
   obtain ⟨v,O⟩:=J
   exact ⟨v,by rw [n];exact O⟩
  ·refine (ok b u q).stay (λc v D r=>k c v ?_ r) λc r=>by rw [az (B c b r)];exact r
   rcases D with rfl|D
   ·exact n
   ·rintro rfl
    rcases he with z|z
    ·exact B c b D z
    ·rw [D] at z;cases z;exact I rfl
end
structure Un (fs ex:List Addr) (H H':Hp) (h h':Heap):Prop where
 keep:∀b o,h.get? b=some o->H b=none->b ∉ fs->b ∉ ex->h'.get? b=some o
 slot:∀b o,h.get? b=some o->H b=none->b∈fs->b ∉ ex->∃sl,h'.get? b=some { o with slots:=sl }
 free:∀b o,h.get? b=some o->H b=none->b ∉ ex->H' b=none
 there:∀b o,h.get? b=some o->b ∉ ex->∃o',h'.get? b=some o'
 qe:∀b o u,H b=some (.Cw o u)->H' b=some (.Cw o u)
section
variable {fs fs' ex ex':List Addr} {H H1 H2:Hp} {h h1 h2 h':Heap} {a x e:Addr} {o:HO}
theorem Un.any (u:Un fs ex H H1 h h1) {b:Addr} {z:Obj} (q:h.get? b=some z) (n:H b=none) (B:b ∉ ex):∃sl,h1.get? b=some { z with slots:=sl }:=by
 by_cases D:b∈fs
 ·exact u.slot b z q n D B
 ·exact ⟨z.slots,u.keep b z q n D B⟩
theorem Un.kept (k:∀b u,h.get? b=some u->h'.get? b=some u):Un fs ex H H h h':=
 ⟨λb z q _ _ _=>k b z q,λb z q _ _ _=>⟨z.slots,k b z q⟩,λ_ _ _ n _=>n,λb z q _=>⟨z,k b z q⟩,λ_ _ _ q=>q⟩
theorem Un.refl:Un fs ex H H h h:=Un.kept λ_ _ q=>q
theorem Un.laid (k:∀b u,h.get? b=some u->h'.get? b=some u) (z:h.objs.size<=a) (B:H a=none):Un fs ex H (upd H a o) h h' where
 keep:=λb u q _ _ _=>k b u q
 slot:=λb u q _ _ _=>⟨u.slots,k b u q⟩
 free:=λb u q n _=>by rw [az (zK (zI (zF q) z))];exact n
 there:=λb u q _=>⟨u,k b u q⟩
 qe:=λb u xs q=>by rw [az (bC q B)];exact q
theorem Un.write (mu:Zk (H x)) (he:e=x\/H e=some (.own x)) (k:∀b u,b≠e->h.get? b=some u->h'.get? b=some u) (D:∃u,h'.get? e=some u):Un fs ex H (upd H x o) h h':=by
 have I:∀b,H b=none->b≠x:=λb n z=>by subst z;rw [n] at mu;exact mu
 have J:∀b,H b=none->b≠e:=λb n z=>by
  subst z
  rcases he with r|r
  ·exact I b n r
  ·rw [n] at r;cases r
 have O:∀b u,H b=some u->¬Zk (some u)->b≠x:=λb u q nm z=>by subst z;rw [q] at mu;exact nm mu
 refine ⟨λb u q n _ _=>k b u (J b n) q,λb u q n _ _=>⟨u.slots,k b u (J b n) q⟩,λb u q n _=>by rw [az (I b n)];exact n,λb u q _=>?_,
  λb u xs q=>by rw [az (O b _ q λz=>z)];exact q⟩
 by_cases B:b=e
 ·subst B;exact D
 ·exact ⟨u,k b u B q⟩
end
def trk (h:Heap) (H:Hp):List Addr:=(List.range h.objs.size).filter λa=>(H a).isSome
def uX (h:Heap) (H:Hp):Heap:=PySem.W.hideAll h (trk h H)
theorem Hf (h:Heap) (H:Hp):(uX h H).objs.size=h.objs.size:=PySem.W.hideAll_size _ _
theorem Jp {h:Heap} (e:h.get? b=some o) (n:H b=none):(uX h H).get? b=some o:=
 yQ _ e λz=>by
  have q:(H b).isSome=true:=(List.mem_filter.mp z).2
  rw [n] at q;simp at q
theorem Qf {h:Heap} (e:(uX h H).get? b=some o):h.get? b=some o/\H b=none:=by
 have n:h.get? b=some o:=PySem.W.of_hideAll (trk h H) e
 refine ⟨n,?_⟩
 cases q:H b with
 | none=>rfl
 | some x=>
  have B:b∈trk h H:=List.mem_filter.mpr ⟨List.mem_range.mpr (zF n),by simp [q]⟩
  have z:(uX h H).get? b=none:=yW (trk h H) B
  rw [z] at e;cases e
def Qg (g h:Heap) (L:Addr):List (Addr × Obj):=(List.range h.objs.size).filterMap λa=>if a=L\/(g.get? a).isSome=true then none else (h.get? a).map λo=>(a,o)
def rest (g h:Heap) (L d:Addr):List (Addr × Obj):=(Qg g h L).filter λp=>decide (p.1≠d)
structure Mod (K:PySem.W.Frag) (mg:Str->Option Value) (base:Heap):Prop where
 Qh:K.In base
 glob:base.Ns mainGlobals mg
 blt:∃mb,base.Ns builtinsNs mb/\∀x:Str,x≠"__name__"->mb x=bootBuiltins x
 nolimit:base.NoLimit
structure Cx where
 prog:Program
 w:World
 K:PySem.W.Frag
 mg:Str->Option Value
 base:Heap
 A:Around
 N:List Str
 s₀:Shared
 H₀:Hp
 env:Env
 outer:List Env
 stack:List Env
 ex:List Addr
 fn:Str->Bool
 calm:Bool
 pn:List (Addr × Obj)
 xe:Value->Shared->Prop
def frs (l:List Env):List Addr:=l.filterMap (·.frame)
abbrev Cx.fs (X:Cx):List Addr:=frs X.outer
def Y_ (n:Scope) (x:Str):Prop:=n.names.lookup x=some .local\/n.names.lookup x=some .cell\/n.names.lookup x=some .free
def Loc (n:Scope) (x:Str):Prop:=n.names.lookup x=some .local\/n.names.lookup x=some .cell
def Look (env:Env) (h:Heap) (m:Str->Option Value) (x:Str) (u:Value):Prop:=
 (env.kindOf x=some .local/\m x=some u)\/((env.kindOf x=some .cell\/env.kindOf x=some .free)/\∃c,env.cells.lookup x=some c/\h.IsCell c (some u))
structure Cx.Ok (X:Cx):Prop where
 mod:Mod X.K X.mg X.base
 kind:X.env.scope.kind=.function
 glob:X.env.globals=mainGlobals
 blt:X.env.builtins=builtinsNs
 above:X.s₀.heap.objs.size<=X.env.locals
 inj:∀x y c,X.env.cells.lookup x=some c->X.env.cells.lookup y=some c->x=y
 has:∀x,(X.env.kindOf x=some .cell\/X.env.kindOf x=some .free)->∃c,X.env.cells.lookup x=some c
 cab:∀x c,X.fn x=true->X.env.cells.lookup x=some c->X.s₀.heap.objs.size<=c
 hd:X.calm=true->X.A.handled=none
 frames:X.A.frames=some X.stack
 stk:X.stack=X.outer\/(X.stack=X.env::X.outer/\X.env.frame=some X.env.locals)
 Vi:∀b∈X.ex,b≠X.env.locals/\∀x c,X.env.cells.lookup x=some c->c≠b
 bs:∀b o,X.base.get? b=some o->X.s₀.heap.get? b=some o/\X.H₀ b=none
 Hi:X.base.objs.size<=X.s₀.heap.objs.size
 t_:∀b o,X.base.get? b=some o->b ∉ X.ex
 uY:∀b∈X.ex,b ∉ X.fs
 jP:X.s₀.heap.FunFrames X.base X.outer
 Ji:∀b∈X.fs,X.H₀ b=none
structure Inv (X:Cx) (pins:List (Addr × Obj)) (σ:List (Option V)) (H:Hp) (s:Shared):Prop where
 ok:X.Ok
 os:s.os=X.s₀.os
 bare:AllBare s.gens
 base:Un X.fs X.ex X.H₀ H X.s₀.heap s.heap
 loc:∃m,s.heap.Ns X.env.locals m/\∀(i:Nat) (x:Str) (v:V),X.N[i]? = some x->σ[i]? = some (some v)->Y_ X.env.scope x->∃u,RelV v u/\Look X.env s.heap m x u
 cell:∀x c,X.env.cells.lookup x=some c->∃v,s.heap.IsCell c v
 free:H X.env.locals=none
 gk:∀x c,X.env.cells.lookup x=some c->H c=none
 pin:∀p∈X.pn++pins,s.heap.get? p.1=some p.2/\H p.1=none/\p.1≠X.env.locals/\p.1 ∉ X.fs/\∀v,p.2.data≠.cell v
 hok:jO X.prog X.w H s.heap
 len:σ.length=X.N.length
structure FpX (X:Cx) (pins:List (Addr × Obj)) (b:Addr):Prop where
 l:b≠X.env.locals
 f:b ∉ X.fs
 e:b∈X.ex\/X.s₀.heap.get? b=none
 c:∀x c,X.env.cells.lookup x=some c->c≠b
 p:∀p∈X.pn++pins,p.1≠b
def lU (X:Cx) (n:List (Addr × Obj)) (H:Hp) (b:Addr):Prop:=H b=none/\FpX X n b
section
variable {X:Cx} {pins:List (Addr × Obj)} {σ:List (Option V)} {H H':Hp} {s:Shared} {h':Heap}
theorem Cx.Ok.acR (ok:X.Ok) (e:X.base.get? b=some o):b ∉ X.fs:=λn=>by
 have:=(ok.jP.mem n).1
 rw [e] at this;cases this
theorem Inv.bs (I:Inv X pins σ H s):∀b o,X.base.get? b=some o->s.heap.get? b=some o/\H b=none:=λb o e=>
 ⟨I.base.keep b o (I.ok.bs b o e).1 (I.ok.bs b o e).2 (I.ok.acR e) (I.ok.t_ b o e),I.base.free b o (I.ok.bs b o e).1 (I.ok.bs b o e).2 (I.ok.t_ b o e)⟩
theorem Inv.bk (I:Inv X pins σ H s):∀b o,X.base.get? b=some o->s.heap.get? b=some o:=λb o e=>(I.bs b o e).1
theorem Inv.mod (I:Inv X pins σ H s):Mod X.K X.mg X.base:=I.ok.mod
theorem Inv.q_ (I:Inv X pins σ H s):X.K.In s.heap:=I.ok.mod.Qh.keeps I.bk
theorem Inv.lt (I:Inv X pins σ H s):X.env.locals<s.heap.objs.size:=let ⟨_,hn,_⟩:=I.loc;hn.lt
theorem Inv.sz (I:Inv X pins σ H s):X.s₀.heap.objs.size<=s.heap.objs.size:=zQ I.ok.above (xt I.lt)
theorem Inv.Zm (I:Inv X pins σ H s) (h:s.heap.objs.size<=a):a ∉ X.fs:=λz=>by
 obtain ⟨_,o,n,_⟩:=I.ok.jP.mem z
 exact absurd (zI (zF n) (zQ I.sz h)) (xw _)
theorem Inv.Vj (I:Inv X pins σ H s):∀x c,X.env.cells.lookup x=some c->c≠X.env.locals:=λx c e z=>by
 obtain ⟨v,o,B,hd⟩:=I.cell x c e
 obtain ⟨m,⟨o',es,D,n,hd',_⟩,_⟩:=I.loc
 rw [z,n] at B;cases B;rw [hd'] at hd;cases hd
theorem Inv.jP (I:Inv X pins σ H s):s.heap.FunFrames X.base X.outer:=by
 have all:∀(l:List Env),(∀b∈frs l,b∈X.fs)->X.s₀.heap.FunFrames X.base l->s.heap.FunFrames X.base l:=by
  intro l
  induction l with
  | nil=>intro _ _;trivial
  | cons env r ih=>
   intro B U
   obtain ⟨Y,⟨L,o,hf,O,J,hd⟩,D⟩:=U
   have hL:L∈X.fs:=B L (by unfold frs;rw [List.filterMap_cons,hf];exact zo)
   obtain ⟨sl,e⟩:=I.base.slot L o J (I.ok.Ji L hL) hL λz=>I.ok.uY L z hL
   exact ⟨Y,⟨L,_,hf,O,e,hd⟩,ih (λb n=>B b (by unfold frs;rw [List.filterMap_cons,hf];exact zp _ n)) D⟩
 exact all X.outer (λ_ n=>n) I.ok.jP
theorem Inv.stack (I:Inv X pins σ H s):s.heap.FunFrames X.base X.stack:=by
 rcases I.ok.stk with e|⟨e,hf⟩
 ·rw [e];exact I.jP
 ·rw [e]
  obtain ⟨m,n,_⟩:=I.loc
  refine .cons (by rw [I.ok.kind];decide) hf n ?_ I.jP
  exact Heap.get?_none_of_le (zQ I.ok.Hi I.ok.above)
theorem Inv.lV (I:Inv X pins σ H s):∀b∈frs X.stack,b∈X.env.locals::X.fs:=λb n=>by
 rcases I.ok.stk with e|⟨e,hf⟩
 ·rw [e] at n;exact zp _ n
 ·rw [e] at n
  unfold frs at n
  rw [List.filterMap_cons,hf] at n
  exact n
theorem Inv.qz (I:Inv X pins σ H s):∀b∈frs X.stack,H b=none:=λb n=>by
 rcases zr.mp (I.lV b n) with e|n
 ·rw [e];exact I.free
 ·obtain ⟨_,o,B,_⟩:=I.ok.jP.mem n
  exact I.base.free b o B (I.ok.Ji b n) λz=>I.ok.uY b z n
theorem Inv.step {g':Array GenState} {t':Nat} {d':Drawn} {ch:List Addr} (I:Inv X pins σ H s)
  (J:∀b∈ch,FpX X pins b)
  (keep:∀b o,b≠X.env.locals->b ∉ X.fs->b ∉ ch->s.heap.get? b=some o->H b=none->h'.get? b=some o)
  (slot:∀b o,b≠X.env.locals->b∈X.fs->b ∉ ch->s.heap.get? b=some o->H b=none->∃sl,h'.get? b=some { o with slots:=sl }) (free:∀b o,b ∉ ch->s.heap.get? b=some o->H b=none->H' b=none)
  (there:∀b o,b ∉ ch->s.heap.get? b=some o->∃o',h'.get? b=some o')
  (qe:∀b o u,H b=some (.Cw o u)->H' b=some (.Cw o u))
  (ns:∀m,s.heap.Ns X.env.locals m->h'.Ns X.env.locals m) (hok:jO X.prog X.w H' h') (hg:AllBare g') :
  Inv X pins σ H' { s with heap:=h',gens:=g',drawn:=d',toks:=t' }:=by
 have neL:∀b o,X.s₀.heap.get? b=some o->b≠X.env.locals:=λb o e=>zK (zI (zF e) I.ok.above)
 have U:∀b o,X.s₀.heap.get? b=some o->b ∉ X.ex->b ∉ ch:=λb o e B Y=>by
  rcases (J b Y).e with z|z
  ·exact B z
  ·rw [z] at e;cases e
 have O:∀x c,X.env.cells.lookup x=some c->∀v,s.heap.IsCell c v->h'.IsCell c v:=λx c e v zq=>by
  obtain ⟨o,Z,hd⟩:=zq
  have D:c ∉ ch:=λz=>(J c z).c x c e rfl
  by_cases hc:c∈X.fs
  ·obtain ⟨sl,q⟩:=slot c o (I.Vj x c e) hc D Z (I.gk x c e)
   exact ⟨_,q,hd⟩
  ·exact ⟨o,keep c o (I.Vj x c e) hc D Z (I.gk x c e),hd⟩
 refine ⟨I.ok,I.os,hg,⟨λb o e n Y B=>?_,λb o e n Y B=>?_,λb o e n B=>?_,λb o e B=>?_,λb o xs e=>qe b o xs (I.base.qe b o xs e)⟩,?_,λx c e=>?_,?_,λx c e=>?_,λp hp=>?_,hok,I.len⟩
 ·exact keep b o (neL b o e) Y (U b o e B) (I.base.keep b o e n Y B) (I.base.free b o e n B)
 ·obtain ⟨sl,e1⟩:=I.base.slot b o e n Y B
  obtain ⟨sl',e2⟩:=slot b _ (neL b o e) Y (U b o e B) e1 (I.base.free b o e n B)
  exact ⟨sl',e2⟩
 ·obtain ⟨o',e1⟩:=I.base.there b o e B
  exact free b o' (U b o e B) e1 (I.base.free b o e n B)
 ·obtain ⟨o',e1⟩:=I.base.there b o e B
  exact there b o' (U b o e B) e1
 ·obtain ⟨m,hn,hl⟩:=I.loc
  refine ⟨m,ns m hn,λi x v e1 e2 e3=>?_⟩
  obtain ⟨u,r,l⟩:=hl i x v e1 e2 e3
  refine ⟨u,r,?_⟩
  rcases l with l|⟨k,c,e,z⟩
  ·exact .inl l
  ·exact .inr ⟨k,c,e,O x c e _ z⟩
 ·obtain ⟨v,z⟩:=I.cell x c e
  exact ⟨v,O x c e v z⟩
 ·obtain ⟨m,⟨o,_,_,Z,_⟩,_⟩:=I.loc
  exact free _ o (λz=>(J _ z).l rfl) Z I.free
 ·obtain ⟨v,o,Z,hd⟩:=I.cell x c e
  exact free c o (λz=>(J c z).c x c e rfl) Z (I.gk x c e)
 ·obtain ⟨e,n,ne,nf,d⟩:=I.pin p hp
  have D:p.1 ∉ ch:=λz=>(J p.1 z).p p hp rfl
  exact ⟨keep p.1 p.2 ne nf D e n,free p.1 p.2 D e n,ne,nf,d⟩
theorem Inv.un {t':Nat} (I:Inv X pins σ H s) (u:Un X.fs [] H H' s.heap h') (hok:jO X.prog X.w H' h'):Inv X pins σ H' { s with heap:=h',toks:=t' }:=by
 obtain ⟨m,⟨o,es,ep,U,r⟩,_⟩:=id I.loc
 obtain ⟨sl,hL⟩:=u.any U I.free (by simp)
 exact I.step (g':=s.gens) (d':=s.drawn) (ch:=[]) (λ_ z=>nomatch z) (λb o _ D _ e n=>u.keep b o e n D (by simp)) (λb o _ D _ e n=>u.slot b o e n D (by simp)) (λb o _ e n=>u.free b o e n (by simp)) (λb o _ e=>u.there b o e (by simp)) u.qe (λm' Z=>by
  obtain ⟨o',J,O,B,Y⟩:=Z
  rw [U] at B;cases B
  exact ⟨_,J,O,hL,Y⟩) hok I.bare
theorem Inv.call {g':Array GenState} {t':Nat} {d':Drawn} {ch:List Addr} (I:Inv X pins σ H s) (u:Un (frs X.stack) ch H H' s.heap h') (hok:jO X.prog X.w H' h') (hg:AllBare g')
  (J:∀b∈ch,FpX X pins b) :
  Inv X pins σ H' { s with heap:=h',gens:=g',drawn:=d',toks:=t' }:=by
 obtain ⟨m,⟨o,es,ep,Y,r⟩,_⟩:=id I.loc
 obtain ⟨sl,hL⟩:=u.any Y I.free λz=>(J _ z).l rfl
 exact I.step (ch:=ch) J (λb o hL hb B e n=>u.keep b o e n (λz=>(zr.mp (I.lV b z)).elim hL hb) B) (λb o _ _ B e n=>u.any e n B) (λb o B e n=>u.free b o e n B) (λb o B e=>u.there b o e B) u.qe (λm' hm=>by
  obtain ⟨o',O,U,D,Z⟩:=hm
  rw [Y] at D;cases D
  exact ⟨_,O,U,hL,Z⟩) hok hg
theorem Inv.moved {t':Nat} {ch:List Addr} (I:Inv X pins σ H s) (hf:∀b∈ch,lU X pins H b) (k:∀b o,b ∉ ch->s.heap.get? b=some o->h'.get? b=some o) (e:∀b,b ∉ ch->b<s.heap.objs.size->H' b=H b) (hok:jO X.prog X.w H' h') :
  Inv X pins σ H' { s with heap:=h',toks:=t' }:=
 I.step (g':=s.gens) (d':=s.drawn) (ch:=ch) (λb O=>(hf b O).2) (λb o _ _ B q _=>k b o B q) (λb o _ _ B q _=>⟨o.slots,k b o B q⟩) (λb o B q n=>by rw [e b B (zF q)];exact n)
  (λb o B q=>⟨o,k b o B q⟩) (λb o u q=>by rw [e b (λz=>by rw [(hf b z).1] at q;cases q) (I.hok.lt q)];exact q) (λm J=>by
   obtain ⟨o,es,U,D,r⟩:=J
   exact ⟨o,es,U,k _ o (λz=>(hf _ z).2.l rfl) D,r⟩) hok I.bare
theorem Inv.turned {t':Nat} {B:Addr} (I:Inv X pins σ H s) (f:lU X pins H B) (k:∀b o,b≠B->s.heap.get? b=some o->h'.get? b=some o):Inv X pins σ H { s with heap:=h',toks:=t' }:=
 have m:∀b∈[B],lU X pins H b:=λb n=>zA.mp n▸f
 have D:∀b o,b ∉ [B]->s.heap.get? b=some o->h'.get? b=some o:=λb o n=>k b o λz=>n (zA.mpr z)
 I.moved m D (λ_ _ _=>rfl) (I.hok.moved (λb n=>(m b n).1) D)
theorem Inv.tok (I:Inv X pins σ H s) (t:Nat):Inv X pins σ H { s with toks:=t }:=I.un (h':=s.heap) (t':=t) Un.refl I.hok
theorem Inv.kept {t':Nat} (I:Inv X pins σ H s) (k:∀b u,s.heap.get? b=some u->h'.get? b=some u):Inv X pins σ H { s with heap:=h',toks:=t' }:=I.un (Un.kept k) (I.hok.kept k)
theorem Inv.laid (I:Inv X pins σ H s) (k:∀b u,s.heap.get? b=some u->h'.get? b=some u) (n:s.heap.objs.size<=a) (new:bN X.prog X.w (upd H a o) h' a o) :
  Inv X pins σ (upd H a o) { s with heap:=h',toks:=t' }:=I.un (Un.laid k n (I.hok.fresh n)) (I.hok.laid k n new)
theorem Inv.write (I:Inv X pins σ H s) (mu:Zk (H x)) (he:e=x\/H e=some (.own x)) (k:∀b u,b≠e->s.heap.get? b=some u->h'.get? b=some u) (n:∃u,h'.get? e=some u)
  (new:bN X.prog X.w (upd H x o) h' x o):Inv X pins σ (upd H x o) { s with heap:=h',toks:=t' }:=I.un (Un.write mu he k n) (I.hok.write mu he k n new)
theorem Inv.qF (I:Inv X pins σ H s) (h:∀p∈Fg,s.heap.get? p.1=some p.2/\H p.1=none/\p.1≠X.env.locals/\p.1 ∉ X.fs/\∀v,p.2.data≠.cell v):Inv X Fg σ H s:=
 ⟨I.ok,I.os,I.bare,I.base,I.loc,I.cell,I.free,I.gk,λp n=>(zN.mp n).elim (λz=>I.pin p (yM _ z)) (h p),I.hok,I.len⟩
theorem xQ {N:List Str} (hN:N.Nodup) {i j:Nat} {x:Str} (a:N[i]? = some x) (b:N[j]? = some x):i=j:=by
 obtain ⟨h1,e1⟩:=zt.mp a
 obtain ⟨h2,e2⟩:=zt.mp b
 exact (List.getElem_inj hN).mp (e1.trans e2.symm)
theorem uq {M:Model} {A:Around} {E:Value->Shared->Prop} {i:Nat} {x:Str} {v:V} {u:Value} {Q:Unit->Shared->Prop} (I:Inv X pins σ H s) (hN:X.N.Nodup) (hi:X.N[i]? = some x) (O:Loc X.env.scope x) (r:RelV v u)
  (h:∀s',Inv X pins (σ.set i (some v)) H s'->(∃a,Heap.SameBut a s.heap s'.heap/\(a=X.env.locals\/X.env.cells.lookup x=some a))->Q () s') (hf:X.fn x=true\/X.env.scope.names.lookup x=some .local:=by first|exact .inl rfl|exact .inr rfl|assumption):wpAny M A (storeName X.env x u) Q E s:=by
 obtain ⟨m,hn,hl⟩:=id I.loc
 have hcls:(X.env.scope.kind == .class || (X.env.scope.kind == .module && X.env.locals != X.env.globals))=false:=by rw [I.ok.kind];rfl
 have hiσ:i<σ.length:=by rw [I.len];exact (zt.mp hi).1
 have Vj:=I.Vj
 have D:∀{a:Addr} {h':Heap},(∃o,s.heap.get? a=some o/\H a=none)->Heap.SameBut a s.heap h'->jO X.prog X.w H h':=λ{a h'} ha B b ob e=>by
  obtain ⟨_,_,U⟩:=ha
  refine (I.hok b ob e).stay (λc w' J q=>(B.2 c ?_).trans q) λ_ q=>q
  rintro rfl
  rcases J with rfl|J
  ·rw [U] at e;cases e
  ·rw [U] at J;cases J
 rcases O with Y|Y
 ·refine wpAny_storeName_local Y hn (λh' hn' B=>?_) hcls
  obtain ⟨oL,_,_,hoL,_⟩:=id hn
  refine h _ ⟨I.ok,I.os,I.bare,⟨λb o e n hb O=>?_,λb o e n hb O=>?_,I.base.free,λb o e O=>?_,I.base.qe⟩,⟨_,hn',λj y v' e1 e2 e3=>?_⟩,λy c e=>?_,I.free,I.gk,λp hp=>?_,D ⟨oL,hoL,I.free⟩ B,by simpa using I.len⟩ ⟨_,B,.inl rfl⟩
  ·exact (B.2 b (zK (zI (zF e) I.ok.above))).trans (I.base.keep b o e n hb O)
  ·obtain ⟨sl,e1⟩:=I.base.slot b o e n hb O
   exact ⟨sl,(B.2 b (zK (zI (zF e) I.ok.above))).trans e1⟩
  ·obtain ⟨o',e1⟩:=I.base.there b o e O
   exact ⟨o',(B.2 b (zK (zI (zF e) I.ok.above))).trans e1⟩
  ·by_cases Z:j=i
   ·subst Z
    rw [hi] at e1;cases e1
    rw [zM hiσ] at e2
    cases e2
    exact ⟨u,r,.inl ⟨Y,by simp⟩⟩
   ·rw [zy (Ne.symm Z)] at e2
    obtain ⟨u',r',q⟩:=hl j y v' e1 e2 e3
    refine ⟨u',r',?_⟩
    rcases q with ⟨k,e⟩|⟨k,c,e,z⟩
    ·refine .inl ⟨k,?_⟩
     have:y≠x:=λe=>Z (xQ hN e1 (e▸hi))
     simp [this,e]
    ·exact .inr ⟨k,c,e,z.sameBut B (Vj y c e)⟩
  ·obtain ⟨w',z⟩:=I.cell y c e
   exact ⟨w',z.sameBut B (Vj y c e)⟩
  ·obtain ⟨e,n,ne,nf,d⟩:=I.pin p hp
   exact ⟨(B.2 p.1 ne).trans e,n,ne,nf,d⟩
 ·have hfn:X.fn x=true:=by
   rcases hf with z|z
   ·exact z
   ·rw [z] at Y;cases Y
  obtain ⟨c,J⟩:=I.ok.has x (.inl Y)
  obtain ⟨w',z⟩:=I.cell x c J
  refine wpAny_storeName_cell I.ok.kind Y J z (λh' hc' B=>?_)
  obtain ⟨oc,hoc,acS⟩:=id z
  refine h { s with heap:=h' } ⟨I.ok,I.os,I.bare,⟨λb o e n hb O=>?_,λb o e n hb O=>?_,I.base.free,λb o e O=>?_,I.base.qe⟩,⟨m,hn.sameBut B (Ne.symm (Vj x c J)),λj y v' e1 e2 e3=>?_⟩,λy c' e=>?_,I.free,I.gk,λp hp=>?_,D ⟨oc,hoc,I.gk x c J⟩ B,by simpa using I.len⟩ ⟨c,B,.inr J⟩
  ·exact (B.2 b (zK (zI (zF e) (I.ok.cab x c hfn J)))).trans (I.base.keep b o e n hb O)
  ·obtain ⟨sl,e1⟩:=I.base.slot b o e n hb O
   exact ⟨sl,(B.2 b (zK (zI (zF e) (I.ok.cab x c hfn J)))).trans e1⟩
  ·obtain ⟨o',e1⟩:=I.base.there b o e O
   exact ⟨o',(B.2 b (zK (zI (zF e) (I.ok.cab x c hfn J)))).trans e1⟩
  ·by_cases Z:j=i
   ·subst Z
    rw [hi] at e1;cases e1
    rw [zM hiσ] at e2
    cases e2
    exact ⟨u,r,.inr ⟨.inl Y,c,J,hc'⟩⟩
   ·rw [zy (Ne.symm Z)] at e2
    obtain ⟨u',r',q⟩:=hl j y v' e1 e2 e3
    refine ⟨u',r',?_⟩
    rcases q with q|⟨k,c',e,z'⟩
    ·exact .inl q
    ·refine .inr ⟨k,c',e,z'.sameBut B ?_⟩
     rintro rfl
     exact Z (xQ hN e1 (I.ok.inj _ _ _ e J▸hi))
  ·by_cases hcc:c'=c
   ·subst hcc;exact ⟨_,hc'⟩
   ·obtain ⟨w2,z2⟩:=I.cell y c' e
    exact ⟨w2,z2.sameBut B hcc⟩
  ·obtain ⟨e,n,ne,nf,d⟩:=I.pin p hp
   refine ⟨(B.2 p.1 ?_).trans e,n,ne,nf,d⟩
   intro q
   rw [q,hoc] at e
   have q':oc=p.2:=yg e
   exact d w' (by rw [<-q'];exact acS)
theorem rm {M:Model} {A:Around} {E:Value->Shared->Prop} {i:Nat} {x:Str} {v:V} {u:Value} {Q:Unit->Shared->Prop} (I:Inv X pins σ H s) (hN:X.N.Nodup) (hi:X.N[i]? = some x) (n:Loc X.env.scope x) (r:RelV v u)
  (h:∀s',Inv X pins (σ.set i (some v)) H s'->Q () s') (hf:X.fn x=true\/X.env.scope.names.lookup x=some .local:=by first|exact .inl rfl|exact .inr rfl|assumption):wpAny M A (storeName X.env x u) Q E s:=
 uq I hN hi n r (λs' z _=>h s' z) hf
theorem Inv.call' {s':Shared} {ch:List Addr} (I:Inv X pins σ H s) (z:s'.os=s.os) (u:Un (frs X.stack) ch H H' s.heap s'.heap) (hok:jO X.prog X.w H' s'.heap) (B:AllBare s'.gens)
  (n:∀b∈ch,FpX X pins b):Inv X pins σ H' s':=by
 obtain ⟨h',g',d',t',o'⟩:=s'
 have e:o'=s.os:=z
 subst e
 exact I.call (g':=g') (t':=t') (d':=d') u hok B n
end
abbrev XK:=Value->Option Addr->Hp->Prop
abbrev St:=List (Option V)
abbrev VK:=V->Hp->Prop
abbrev TE:=St->Hp->VK->Prop
abbrev TT:=St->Hp->(Bool->Hp->Prop)->Prop
abbrev TA:=St->Hp->(List V->Hp->Prop)->Prop
structure Ends where
 nx:St->Hp->Prop
 rt:VK
 bk:St->Hp->Prop:=λ_ _=>False
 ct:St->Hp->Prop:=λ_ _=>False
abbrev TS:=Ends->St->Hp->Prop
def EP (X:Cx) (n:List (Addr × Obj)) (z:St) (Q:VK) (u:Value) (s':Shared):Prop:=∃v H',Inv X n z H' s'/\RelV v u/\Q v H'
def TP (X:Cx) (n:List (Addr × Obj)) (z:St) (Q:Bool->Hp->Prop) (b:Bool) (s':Shared):Prop:=∃H',Inv X n z H' s'/\Q b H'
def AP (X:Cx) (n:List (Addr × Obj)) (z:St) (Q:List V->Hp->Prop) (us:List Value) (s':Shared):Prop:=∃vs H',Inv X n z H' s'/\Vals vs us/\Q vs H'
def SP (X:Cx) (n:List (Addr × Obj)) (D:Ends) (f:Flow) (s':Shared):Prop:=
 match f with
 | .next=>∃σ' H',Inv X n σ' H' s'/\D.nx σ' H'
 | .brk=>∃σ' H',Inv X n σ' H' s'/\D.bk σ' H'
 | .cont=>∃σ' H',Inv X n σ' H' s'/\D.ct σ' H'
 | .ret u=>∃v σ' H',Inv X n σ' H' s'/\RelV v u/\D.rt v H'
def PE (X:Cx) (e:Expr) (t:TE):Prop:=
 ∀(pins:List (Addr × Obj)) (s:Shared) (σ:St) (H:Hp) (Q:VK),Inv X pins σ H s->t σ H Q->wpAny (model X.prog X.w) X.A (eval e X.env) (EP X pins σ Q) X.xe s
def PT (X:Cx) (e:Expr) (t:TT):Prop:=
 ∀(pins:List (Addr × Obj)) (s:Shared) (σ:St) (H:Hp) (Q:Bool->Hp->Prop),Inv X pins σ H s->t σ H Q->wpAny (model X.prog X.w) X.A (isTrue e X.env (eval e X.env)) (TP X pins σ Q) X.xe s
def PW (X:Cx) (e:Expr) (t:TT):Prop:=
 ∀(n:Sem Value) (pins:List (Addr × Obj)) (s:Shared) (σ:St) (H:Hp) (Q:Bool->Hp->Prop),Inv X pins σ H s->t σ H Q->wpAny (model X.prog X.w) X.A (isTrue e X.env n) (TP X pins σ Q) X.xe s
theorem PW.pt (h:PW X e t):PT X e t:=h _
def PA (X:Cx) (es:List Expr) (t:TA):Prop:=
 ∀(pos:Pos) (pins:List (Addr × Obj)) (s:Shared) (σ:St) (H:Hp) (Q:List V->Hp->Prop),Inv X pins σ H s->t σ H Q->wpAny (model X.prog X.w) X.A (spliced (backTo pos (starEach es X.env))) (AP X pins σ Q) X.xe s
def PS (X:Cx) (st:Stmt) (t:TS):Prop:=
 ∀(pins:List (Addr × Obj)) (s:Shared) (σ:St) (H:Hp) (D:Ends),Inv X pins σ H s->t D σ H->wpAny (model X.prog X.w) X.A (exec st X.env) (SP X pins D) X.xe s
def gO (X:Cx) (st:List Stmt) (t:TS):Prop:=
 ∀(pins:List (Addr × Obj)) (s:Shared) (σ:St) (H:Hp) (D:Ends),Inv X pins σ H s->t D σ H->wpAny (model X.prog X.w) X.A (execs st X.env) (SP X pins D) X.xe s
theorem bu {α:Type} {t:Sem α} {Q n:α->Shared->Prop} {M:Model} {A:Around} {E:Value->Shared->Prop} {s:Shared} (h:wpAny M A t Q E s) (hQ:∀a s,Q a s->n a s):wpAny M A t n E s:=yT h hQ λ_ _ x=>x
section
variable {X:Cx}
def xR (i:Nat):TE:=λσ H Q=>∃v,σ[i]? = some (some v)/\Q v H
def tC (v:V):TE:=λ_ H Q=>Q v H
theorem Vk (hN:X.N[i]? = some x) (J:Y_ X.env.scope x) (hd:(x == ("__debug__":Str))=false:=by decide) (B:(x == ("__classdict__":Str))=false:=by decide):PE X (.Name x pos) (xR i):=by
 intro pins s σ H Q I h
 obtain ⟨v,e,h⟩:=h
 obtain ⟨m,O,Y⟩:=I.loc
 obtain ⟨u,r,l⟩:=Y i x v hN e J
 have fin:EP X pins σ Q u s:=⟨v,H,I,r,h⟩
 rcases l with ⟨z,U⟩|⟨z,c,D,n⟩
 ·exact wpAny_Name (wpAny_loadName_local I.ok.kind z O U fin) hd
 ·rcases z with z|z
  ·exact wpAny_Name (wpAny_loadName_cell I.ok.kind z D n fin) hd
  ·exact wpAny_Name (wpAny_loadName_free I.ok.kind z D n fin B) hd
theorem uZ {i j pos}:PE X (.Constant (.int i) j pos) (tC (.int i)):=λ_ _ _ H _ I h=>wpAny_Constant_int ⟨.int i,H,I.tok _,⟨_,rfl⟩,h⟩
theorem nq {b j pos}:PE X (.Constant (.bool b) j pos) (tC (.bl b)):=λ_ _ _ H _ I h=>Constant_bool ⟨.bl b,H,I,rfl,h⟩
theorem u5 {j pos}:PE X (.Constant .none j pos) (tC .non):=λ_ _ _ H _ I h=>Constant_none ⟨.non,H,I,rfl,h⟩
theorem Cy {x j pos}:PE X (.Constant (.str x) j pos) (tC (.str x)):=λ_ _ _ H _ I h=>Calls.Constant_str ⟨.str x,H,I.tok _,⟨_,rfl⟩,h⟩
def Gl (X:Cx) (x:Str):Prop:=X.env.kindOf x=some .globalImplicit
theorem jo (I:Inv X pins σ H s) (z:Gl X x) (n:X.mg x=some u) (h:Q u s)
  (hd:(x == ("__debug__":Str))=false:=by decide):wpAny (model X.prog X.w) X.A (eval (.Name x pos) X.env) Q E s:=
 Calls.Name_function_global I.ok.kind z (Calls.loadGlobal_global (by rw [I.ok.glob];exact I.mod.glob.keeps I.bk) n h) hd
theorem gD {E:Value->Shared->Prop} {n:List (Addr × Obj)} {s:Shared} {z:St} {H:Hp} {x:Str} {u:Value} {pos:Pos} {Q:Value->Shared->Prop} (I:Inv X n z H s) (O:Gl X x) (J:X.mg x=none) (B:bootBuiltins x=some u) (h:Q u s)
  (D:x≠"__name__":=by decide) (hd:(x == ("__debug__":Str))=false:=by decide):wpAny (model X.prog X.w) X.A (eval (.Name x pos) X.env) Q E s:=by
 obtain ⟨U,h1,h2⟩:=I.mod.blt
 exact Calls.Name_function_global I.ok.kind O (Calls.loadGlobal_builtin (by rw [I.ok.glob];exact I.mod.glob.keeps I.bk) J (by rw [I.ok.blt];exact h1.keeps I.bk) ((h2 x D).trans B) h) hd
theorem e_ (z:Gl X x) (n:X.mg x=some u) (r:RelV v u) (hd:(x == ("__debug__":Str))=false:=by decide):PE X (.Name x pos) (tC v):=
 λ_ _ _ H _ I h=>jo I z n ⟨v,H,I,r,h⟩ hd
theorem qG (D:Gl X x) (B:X.mg x=none) (n:bootBuiltins x=some u) (r:RelV v u) (z:x≠"__name__":=by decide) (hd:(x == ("__debug__":Str))=false:=by decide):PE X (.Name x pos) (tC v):=
 λ_ _ _ H _ I h=>gD I D B n ⟨v,H,I,r,h⟩ z hd
variable {a b:Expr} {ta tb:TE} {pos:Pos}
def PC (X:Cx) (B:CmpOp) (a b:Expr) (t:TE):Prop:=
 ∀(pins:List (Addr × Obj)) (s:Shared) (σ:St) (H:Hp) (Q:VK),Inv X pins σ H s->t σ H Q->
  wpAny (model X.prog X.w) X.A (eval a X.env) (λv z=>wpAny (model X.prog X.w) X.A (eval b X.env) (λu n=>wpAny (model X.prog X.w) X.A (compareOp B v u) (EP X pins σ Q) X.xe n) X.xe z) X.xe s
theorem xT (b:Expr) {n:CmpOp} (h:n≠.In) (z:n≠.NotIn):behindInMarks n b=false:=by
 have e1:(n == CmpOp.In)=false:=by cases n<;>first|rfl|exact absurd rfl h
 have e2:(n == CmpOp.NotIn)=false:=by cases n<;>first|rfl|exact absurd rfl z
 cases b<;>simp [behindInMarks,e1,e2]
def acT (n:TE):TE:=λσ H Q=>n σ H λx H1=>Q (.bl (decide (x=.non))) H1
def Zn (n:TE):TE:=λσ H Q=>n σ H λx H1=>Q (.bl (!decide (x=.non))) H1
theorem RelV.xU (r:RelV x v):(v == Value.none)=decide (x=.non):=by
 cases x with
 | non=>cases r;rfl
 | bl _=>cases r;rfl
 | int _=>obtain ⟨t,rfl⟩:=r;rfl
 | str _=>obtain ⟨t,rfl⟩:=r;rfl
 | ref _=>cases r;rfl
 | ty _=>cases r;rfl
theorem Vl {j pos'} (B:PE X a ta):PC X .Is a (.Constant .none j pos') (acT ta):=by
 intro pins s σ H Q I h
 refine bu (B pins s σ H _ I h) λv J n=>?_
 obtain ⟨x,H1,D,z,q1⟩:=n
 exact Constant_none (is_none_gen ⟨.bl _,H1,D,by rw [z.xU];rfl,q1⟩)
theorem Qi {j pos'} (B:PE X a ta):PC X .IsNot a (.Constant .none j pos') (Zn ta):=by
 intro pins s σ H Q I h
 refine bu (B pins s σ H _ I h) λv J n=>?_
 obtain ⟨x,H1,D,z,q1⟩:=n
 exact Constant_none (isnot_none_gen ⟨.bl _,H1,D,by rw [z.xU];rfl,q1⟩)
def tB (t:TE):TT:=λσ H Q=>t σ H λx H1=>∃c,x=.bl c/\Q c H1
theorem Vm (h:PC X op a b t) (z:behindInMarks op b=false:=by first|exact xT _ (by decide) (by decide)|rfl):PE X (.Compare a [op] [b] pos) t:=λpins s σ H Q I n=>wpAny_Compare1 (h pins s σ H Q I n) z
theorem Cz {n:CmpOp} {t:TE} (h:PC X n a b t) (z:behindInMarks n b=false:=by first|exact xT _ (by decide) (by decide)|rfl):PT X (.Compare a [n] [b] pos) (tB t):=by
 intro pins s σ H Q I J
 refine wpAny_isTrue_Compare1 (bu (h pins s σ H _ I J) λv Z z=>bu z λu Y h2=>bu h2 λc U B=>?_) z
 obtain ⟨x,H1,O,D,q1⟩:=B
 obtain ⟨d,rfl,q⟩:=q1
 cases D
 exact yy ⟨H1,O,q⟩
theorem Vn {e : Expr} {t : TE} (h : PE X e t) (he : ∀ whole, isTrue e X.env whole = (do let v ← whole; standAt e.pos; holding [v] (truthy v)) := by intro _; rfl) : PT X e (tB t) := by
  intro pins s σ H Q I B
  refine isTrue_plain (bu (h pins s σ H _ I B) λv J n=>?_) (he _)
  obtain ⟨x, H1, D, z, q1⟩:=n
  obtain ⟨d, rfl, q⟩ := q1
  cases z
  exact yy ⟨H1, D, q⟩
variable {tA Qj:TT} {rest:List Expr}
def acU (t u:TT):TT:=λσ H Q=>t σ H λc H1=>if c=true then u σ H1 Q else Q false H1
def tOr (t u:TT):TT:=λσ H Q=>t σ H λc H1=>if c=true then Q true H1 else u σ H1 Q
def acV (t:TT):TT:=λσ H Q=>t σ H λc H1=>Q (!c) H1
theorem pw_and1 (n:PT X a tA):PW X (.BoolOp .And [a] pos) tA:=by
 intro z pins s σ H Q I h
 refine isTrue_and (bu (n pins s σ H Q I h) λc B e=>?_)
 cases c with
 | true=>exact isTrue_and_nil e
 | false=>exact e
theorem pw_or1 (n:PT X a tA):PW X (.BoolOp .Or [a] pos) tA:=by
 intro z pins s σ H Q I h
 refine isTrue_or (bu (n pins s σ H Q I h) λc B e=>?_)
 cases c with
 | false=>exact isTrue_or_nil e
 | true=>exact e
theorem pw_and (J:PT X a tA) (D:PW X (.BoolOp .And (b::rest) pos) Qj):PW X (.BoolOp .And (a::b::rest) pos) (acU tA Qj):=by
 intro z pins s σ H Q I h
 refine isTrue_and (bu (J pins s σ H _ I h) λc B ⟨H1,n,q1⟩=>?_)
 cases c with
 | true=>exact D z pins B σ H1 Q n q1
 | false=>exact ⟨H1,n,q1⟩
theorem pw_or (J:PT X a tA) (D:PW X (.BoolOp .Or (b::rest) pos) Qj):PW X (.BoolOp .Or (a::b::rest) pos) (tOr tA Qj):=by
 intro z pins s σ H Q I h
 refine isTrue_or (bu (J pins s σ H _ I h) λc B ⟨H1,n,q1⟩=>?_)
 cases c with
 | true=>exact ⟨H1,n,q1⟩
 | false=>exact D z pins B σ H1 Q n q1
theorem Vo (n:PT X a tA):PT X (.UnaryOp .Not a pos) (acV tA):=by
 intro pins s σ H Q I h
 exact isTrue_not (n pins s σ H (λc H1=>Q (!c) H1) I h)
def Zo (z n:TE):TE:=λσ H Q=>z σ H λx H1=>∃c,x=.bl c/\if c=true then n σ H1 Q else Q (.bl false) H1
def acW (z n:TE):TE:=λσ H Q=>z σ H λx H1=>∃c,x=.bl c/\if c=true then Q (.bl true) H1 else n σ H1 Q
def Zq (n:TE):TE:=λσ H Q=>n σ H λx H1=>∃c,x=.bl c/\Q (.bl (!c)) H1
theorem Vp {op} (h:PE X a t):PE X (.BoolOp op [a] pos) t:=λpins s σ H Q I n=>BoolOp_one (h pins s σ H Q I n)
theorem Vq (O:PE X a ta) (J:PE X (.BoolOp .And (b::rest) pos) tb):PE X (.BoolOp .And (a::b::rest) pos) (Zo ta tb):=by
 intro pins s σ H Q I h
 refine BoolOp_and (bu (O pins s σ H _ I h) λv B z=>?_)
 obtain ⟨x,H1,n,D,q1⟩:=z
 obtain ⟨c,rfl,q1⟩:=q1
 cases D
 refine yy ?_
 cases c with
 | true=>exact J pins B σ H1 Q n q1
 | false=>exact ⟨.bl false,H1,n,rfl,q1⟩
theorem Zr (O:PE X a ta) (J:PE X (.BoolOp .Or (b::rest) pos) tb):PE X (.BoolOp .Or (a::b::rest) pos) (acW ta tb):=by
 intro pins s σ H Q I h
 refine BoolOp_or (bu (O pins s σ H _ I h) λv B z=>?_)
 obtain ⟨x,H1,n,D,q1⟩:=z
 obtain ⟨c,rfl,q1⟩:=q1
 cases D
 refine yy ?_
 cases c with
 | false=>exact J pins B σ H1 Q n q1
 | true=>exact ⟨.bl true,H1,n,rfl,q1⟩
theorem Vr (B:PE X a ta):PE X (.UnaryOp .Not a pos) (Zq ta):=by
 intro pins s σ H Q I h
 refine UnaryOp_ (bu (B pins s σ H _ I h) λv J n=>?_)
 obtain ⟨x,H1,D,z,q1⟩:=n
 obtain ⟨c,rfl,q1⟩:=q1
 cases z
 exact not_of (yy ⟨.bl (!c),H1,D,rfl,q1⟩)
def tIf (t:TT) (z n:TE):TE:=λσ H Q=>t σ H λc H1=>if c=true then z σ H1 Q else n σ H1 Q
theorem Jq {c:Expr} (B:PT X c tA) (J:PE X a ta) (D:PE X b tb):PE X (.IfExp c a b pos) (tIf tA ta tb):=by
 intro pins s σ H Q I h
 refine wpAny_IfExp (bu (B pins s σ H _ I h) λd n ⟨H1,z,q1⟩=>?_)
 cases d with
 | true=>exact J pins n σ H1 Q z q1
 | false=>exact D pins n σ H1 Q z q1
end
def jr (K:PySem.W.Frag) (H:Hp) (a:Addr) (xs:List V):Prop:=
 Rd H a (.lst xs) \/
  ∃(o:Obj) (z:Array Value) (n:Nat),K.lookup a=some o/\o.cls=.type "list"/\o.dict=none/\o.data=.seq z n/\z.size<=sizeLine/\Vals xs z.toList
def Cr (K:PySem.W.Frag) (H:Hp) (a:Addr) (xs:List V):Prop:=
 Rd H a (.tup xs) \/
  ∃(o:Obj) (z:Array Value) (n:Nat),K.lookup a=some o/\o.cls=.type "tuple"/\o.data=.seq z n/\z.size<=sizeLine/\Vals xs z.toList
def acX:Value->Option V
 | .none=>some .non
 | .bool b=>some (.bl b)
 | .int i _=>some (.int i)
 | .str x _=>some (.str x)
 | .ref a=>some (.ref a)
 | .type n=>some (.ty n)
 | _=>none
theorem RelV.abs (r:RelV x u):acX u=some x:=by
 cases x with
 | non=>cases r;rfl
 | bl _=>cases r;rfl
 | int _=>obtain ⟨t,rfl⟩:=r;rfl
 | str _=>obtain ⟨t,rfl⟩:=r;rfl
 | ref _=>cases r;rfl
 | ty _=>cases r;rfl
theorem RelV.inj (r:RelV x u) (q:RelV y u):x=y:=yg (r.abs.symm.trans q.abs)
theorem Vals.inj:∀{xs ys:List V} {n:List Value},Vals xs n->Vals ys n->xs=ys
 | _,_,_,.nil,.nil=>rfl
 | _,_,_,.cons r t,.cons r' t'=>by rw [r.inj r',Vals.inj t t']
section
variable {X:Cx} {pins:List (Addr × Obj)} {σ:St} {H:Hp} {s:Shared} {a:Addr} {xs ys:List V}
theorem jr.of {K:PySem.W.Frag} (h:H a=some (.lst xs)):jr K H a xs:=.inl (.inl h)
theorem Cr.of {K:PySem.W.Frag} (h:H a=some (.tup xs)):Cr K H a xs:=.inl (.inl h)
theorem Inv.list (I:Inv X pins σ H s) (h:jr X.K H a xs):∃B:List Value,Vals xs B/\PlainL s.heap a B.toArray/\xs.length<=sizeLine:=by
 rcases h with h|⟨o,B,n,J,O,hd,D,U,r⟩
 ·obtain ⟨z,B,n,r,e⟩:=h.ok I.hok
  exact ⟨B,r,⟨_,n,e,rfl,rfl,rfl⟩,z⟩
 ·refine ⟨B.toList,r,⟨o,n,I.q_ a o J,O,hd,by simpa using D⟩,?_⟩
  have e:=r.length
  simp only [xu] at e
  omega
theorem Inv.tuple (I:Inv X pins σ H s) (h:Cr X.K H a xs):∃B:List Value,Vals xs B/\IsTup s.heap a B.toArray/\xs.length<=sizeLine:=by
 rcases h with h|⟨o,B,n,J,O,D,U,r⟩
 ·obtain ⟨z,B,r,p⟩:=h.ok I.hok
  exact ⟨B,r,p,z⟩
 ·refine ⟨B.toList,r,⟨o,I.q_ a o J,O,n,by simpa using D⟩,?_⟩
  have e:=r.length
  simp only [xu] at e
  omega
theorem Inv.rC (I:Inv X pins σ H s) (h:jr X.K H a xs) (h':jr X.K H a ys):xs=ys:=by
 obtain ⟨z,r,⟨o,n,e,_,_,d⟩,_⟩:=I.list h
 obtain ⟨its',J,⟨o',O,B,_,_,D⟩,_⟩:=I.list h'
 rw [e] at B;cases B
 rw [d] at D
 injection D with d1 _
 have:z=its':=by simpa using yn Array.toList d1
 subst this
 exact r.inj J
theorem Inv.Hj (I:Inv X pins σ H s) (h:Cr X.K H a xs) (h':Cr X.K H a ys):xs=ys:=by
 obtain ⟨z,r,⟨o,e,_,n,d⟩,_⟩:=I.tuple h
 obtain ⟨its',J,⟨o',B,_,O,D⟩,_⟩:=I.tuple h'
 rw [e] at B;cases B
 rw [d] at D
 injection D with d1 _
 have:z=its':=by simpa using yn Array.toList d1
 subst this
 exact r.inj J
end
abbrev Cx.wish (X:Cx) (E:Value->Shared->Prop):Cx:={ X with xe:=E }
abbrev Cx.Tp (X:Cx):Cx:=X.wish λ_ _=>False
theorem Cx.Ok.wish {X:Cx} (ok:X.Ok) (E:Value->Shared->Prop):(X.wish E).Ok:=
 ⟨ok.mod,ok.kind,ok.glob,ok.blt,ok.above,ok.inj,ok.has,ok.cab,ok.hd,ok.frames,ok.stk,ok.Vi,ok.bs,ok.Hi,ok.t_,ok.uY,ok.jP,ok.Ji⟩
theorem Cx.Ok.jQ {X:Cx} (ok:(X.wish E).Ok):X.Ok:=
 ⟨ok.mod,ok.kind,ok.glob,ok.blt,ok.above,ok.inj,ok.has,ok.cab,ok.hd,ok.frames,ok.stk,ok.Vi,ok.bs,ok.Hi,ok.t_,ok.uY,ok.jP,ok.Ji⟩
section
variable {X:Cx} {pins:List (Addr × Obj)} {σ:St} {H:Hp} {s:Shared} {E:Value->Shared->Prop}
theorem Inv.wish (I:Inv X pins σ H s) (E:Value->Shared->Prop):Inv (X.wish E) pins σ H s:=⟨I.ok.wish E,I.os,I.bare,I.base,I.loc,I.cell,I.free,I.gk,I.pin,I.hok,I.len⟩
theorem Inv.jQ (I:Inv (X.wish E) pins σ H s):Inv X pins σ H s:=⟨I.ok.jQ,I.os,I.bare,I.base,I.loc,I.cell,I.free,I.gk,I.pin,I.hok,I.len⟩
theorem SP.jQ {D:Ends} (h:SP (X.wish E) pins D f s'):SP X pins D f s':=by
 cases f with
 | next=>obtain ⟨σ',H',I,q⟩:=h;exact ⟨σ',H',I.jQ,q⟩
 | brk=>obtain ⟨σ',H',I,q⟩:=h;exact ⟨σ',H',I.jQ,q⟩
 | cont=>obtain ⟨σ',H',I,q⟩:=h;exact ⟨σ',H',I.jQ,q⟩
 | ret u=>obtain ⟨v,σ',H',I,r,q⟩:=h;exact ⟨v,σ',H',I.jQ,r,q⟩
theorem gO.Tp {st:List Stmt} {t:TS} (h:gO X.Tp st t):gO X st t:=λpins s σ H D I n=>
 yT (h pins s σ H D (I.wish _) n) (λ_ _ q=>q.jQ) λ_ _ z=>False.elim z
end
section
variable {X:Cx} {st:Stmt} {rest:List Stmt} {t u:TS} {e:Expr} {te:TE} {pos:Pos}
def Zt:TS:=λD σ H=>D.nx σ H
def acY (t u:TS):TS:=λD σ H=>t { D with nx:=u D } σ H
theorem u6:gO X [] Zt:=λ_ _ σ H _ I h=>xI ⟨σ,H,I,h⟩
theorem xV (B:PS X st t) (z:gO X rest u):gO X (st::rest) (acY t u):=by
 intro pins s σ H D I h
 refine wpAny_execs_cons (bu (B pins s σ H { D with nx:=u D } I h) λf n q=>?_)
 cases f with
 | next=>
  obtain ⟨σ',H',J,q⟩:=q
  exact z pins n σ' H' D J q
 | ret v=>exact q
 | brk=>exact q
 | cont=>exact q
theorem Fi (n:PS X st t):gO X [st] t:=by
 intro pins s σ H D I h
 refine wpAny_execs_cons (bu (n pins s σ H D I h) λf z q=>?_)
 cases f with
 | next=>exact xI q
 | ret v=>exact q
 | brk=>exact q
 | cont=>exact q
theorem Inv.quiet (I:Inv X pins σ H s):interactive X.env=false:=by simp [interactive,I.ok.kind]
def Zu (n:TE):TS:=λD σ H=>n σ H λ_ H1=>D.nx σ H1
theorem Fj (he:PE X e te) (z:swapsWith e none pos.line X.env=pure false:=by rfl):PS X (.Expr e pos) (Zu te):=by
 intro pins s σ H D I h
 exact wpAny_Expr_any (bu (he pins s σ H _ I h) λv J n=>by obtain ⟨x,H1,B,O,q1⟩:=n;exact ⟨σ,H1,B,q1⟩) I.quiet z
def acZ (n:TE):TS:=λD σ H=>n σ H D.rt
theorem Jr (he:PE X e te):PS X (.Return (some e) pos) (acZ te):=by
 intro pins s σ H D I h
 exact wpAny_Return_some (bu (he pins s σ H _ I h) λv J n=>by obtain ⟨x,H1,B,z,q1⟩:=n;exact ⟨x,σ,H1,B,z,q1⟩)
def ac0 (c:TT) (t u:TS):TS:=λD σ H=>c σ H λb H1=>if b=true then t D σ H1 else u D σ H1
theorem Js {c:Expr} {a b:List Stmt} {n:TT} (J:PT X c n) (U:gO X a t) (O:gO X b u):PS X (.If c a b pos) (ac0 n t u):=by
 intro pins s σ H D I h
 refine wpAny_If (bu (J pins s σ H _ I h) λd z ⟨H1,B,q1⟩=>?_)
 cases d with
 | true=>exact U pins z σ H1 D B q1
 | false=>exact O pins z σ H1 D B q1
end
abbrev TG:=V->St->Hp->(St->Hp->Prop)->Prop
abbrev Qk:=List V->St->Hp->(St->Hp->Prop)->Prop
def PG (X:Cx) (n:Expr) (t:TG):Prop:=
 ∀(pins:List (Addr × Obj)) (s:Shared) (σ:St) (H:Hp) (v:V) (u:Value) (Q:St->Hp->Prop),Inv X pins σ H s->RelV v u->t v σ H Q->
  wpAny (model X.prog X.w) X.A (assign n X.env u) (λ_ s'=>∃σ' H',Inv X pins σ' H' s'/\Q σ' H') X.xe s
def u9 (X:Cx) (ts:List Expr) (t:Qk):Prop:=
 ∀(pins:List (Addr × Obj)) (s:Shared) (σ:St) (H:Hp) (vs:List V) (us:List Value) (Q:St->Hp->Prop),Inv X pins σ H s->Vals vs us->t vs σ H Q->
  wpAny (model X.prog X.w) X.A (assignInOrder ((assignEach ts X.env).map (·.2)) us) (λ_ s'=>∃σ' H',Inv X pins σ' H' s'/\Q σ' H') X.xe s
abbrev Jt:=V->V->V->Hp->(Hp->Prop)->Prop
def Vs (X:Cx) (t:Jt):Prop:=
 ∀(pins:List (Addr × Obj)) (s:Shared) (σ:St) (H:Hp) (o i v:V) (ov iv u:Value) (Q:Hp->Prop),Inv X pins σ H s->RelV o ov->RelV i iv->RelV v u->t o i v H Q->
  wpAny (model X.prog X.w) X.A (setItem ov iv u) (λ_ s'=>∃H',Inv X pins σ H' s'/\Q H') X.xe s
abbrev Za:=V->V->Hp->VK->Prop
def Zv (X:Cx) (n:Operator) (t:Za):Prop:=
 ∀(pins:List (Addr × Obj)) (s:Shared) (σ:St) (H:Hp) (x y:V) (v u:Value) (Q:VK),Inv X pins σ H s->RelV x v->RelV y u->t x y H Q->
  wpAny (model X.prog X.w) X.A (inplaceOp n v u) (EP X pins σ Q) X.xe s
section
variable {X:Cx} {pos:Pos}
def xW (i:Nat):TG:=λv σ H Q=>Q (σ.set i (some v)) H
theorem Fl (hN:X.N.Nodup) (hi:X.N[i]? = some x) (n:Loc X.env.scope x) (hf:X.fn x=true\/X.env.scope.names.lookup x=some .local:=by first|exact .inl rfl|exact .inr rfl|assumption):PG X (.Name x pos) (xW i):=by
 intro pins s σ H v u Q I r h
 exact wpAny_assign_Name (rm I hN hi n r (λs' z=>⟨_,H,z,h⟩) hf)
def ac1:Qk:=λvs σ H Q=>vs=[]/\Q σ H
def Zw (t:TG) (u:Qk):Qk:=λvs σ H Q=>∃v r,vs=v::r/\t v σ H λσ' H'=>u r σ' H' Q
theorem u_:u9 X [] ac1:=by
 intro pins s σ H vs n Q I r h
 obtain ⟨e,h⟩:=h
 subst e
 cases r
 exact assignInOrder_nil ⟨σ,H,I,h⟩
theorem xX {e:Expr} {es:List Expr} {t:TG} {u:Qk} (O:PG X e t) (J:u9 X es u)
  (D:(assignEach (e::es) X.env).map (·.2)=assign e X.env::(assignEach es X.env).map (·.2):=by rfl):u9 X (e::es) (Zw t u):=by
 intro pins s σ H vs Z Q I r h
 obtain ⟨v,Y,e1,h⟩:=h
 subst e1
 cases r with
 | cons r rr=>
  rw [D]
  refine assignInOrder_cons (bu (O pins s σ H _ _ _ I r h) λ_ B z=>?_)
  obtain ⟨n,H1,U,q1⟩:=z
  exact J pins B n H1 _ _ Q U rr q1
def Zx (K:PySem.W.Frag) (n:Nat) (t:Qk):TG:=λv σ H Q=>∃a xs,v=.ref a/\Cr K H a xs/\xs.length=n/\t xs σ H Q
theorem Vt {k:Nat} (hc:X.calm=true) (h:u9 X es t)
  (Z:(assignEach es X.env).length=n:=by rfl) (B:(assignEach es X.env).findIdx? (·.1)=none:=by rfl):PG X (.Tuple es k pos) (Zx X.K n t):=by
 intro pins s σ H v u Q I r z
 obtain ⟨a,xs,e1,Y,hl,z⟩:=z
 subst e1
 cases r
 obtain ⟨J,D,U,hz⟩:=I.tuple Y
 refine assign_Tuple_tuple (I.ok.hd hc) U (by simp [Z,<-hl,D.length]) B λh' O=>?_
 have I1:Inv X pins σ H { s with heap:=h' }:=I.kept (t':=s.toks) λb o e=>O b o (zK (zF e)) e
 exact h pins _ σ H xs _ Q I1 (by simpa using D) z
def ac2 (n ti:TE) (t:Jt):TG:=λv σ H Q=>n σ H λo H1=>ti σ H1 λi H2=>t o i v H2 λz=>Q σ z
theorem Ju {o i : Expr} {D ti : TE} {t : Jt} (ho : PE X o D) (hi : PE X i ti) (hs : Vs X t)
    (ha : ∀ v, assign (.Subscript o i pos) X.env v = (do
      let n ← holding [v] (eval o X.env)
      let B ← holding [v, n] (eval i X.env)
      standAt pos
      holding [v, n, B] (setItem n B v)
      release [v, n, B] []) := by intro _; rfl) : PG X (.Subscript o i pos) (ac2 D ti t) := by
  intro pins s σ H v u Q I r h
  rw [ha]
  refine zh (ya (bu (ho pins s σ H _ I h) λn O z=>?_))
  obtain ⟨x, H1, I1, Y, q1⟩:=z
  refine zh (ya (bu (hi pins O σ H1 _ I1 q1) λB J z=>?_))
  obtain ⟨y, H2, I2, U, q2⟩:=z
  refine zh (xx (zh (ya (bu (hs pins J σ H2 x y v n B u _ I2 Y U r q2) λ_ s3 z=>?_))))
  obtain ⟨H3, I3, Z⟩:=z
  exact wpAny_release ⟨σ, H3, I3, Z⟩
def Jv (n:TE) (g:TG):TS:=λD σ H=>n σ H λx H1=>g x σ H1 D.nx
theorem CG {n e:Expr} {z:TE} {g:TG} (he:PE X e z) (Z:PG X n g) (Y:swapsWithSole [n] e pos.line X.env=pure false:=by rfl) (U:swappedStores [n] e X.env=pure none:=by rfl)
  (h1:(assignEach [n] X.env).map (·.2)=[assign n X.env]:=by rfl):PS X (.Assign [n] e pos) (Jv z g):=by
 intro pins s σ H D I h
 refine wpAny_Assign_stores (bu (he pins s σ H _ I h) λv J B=>?_) Y U
 obtain ⟨x,H1,I1,O,q1⟩:=B
 rw [h1]
 exact bu (Z pins J σ H1 x v _ I1 O q1) λ_ s2 q=>q
theorem CJ {i:Nat} {x:Str} {e:Expr} {z:TE} {n:Pos} (hN:X.N.Nodup) (hi:X.N[i]? = some x) (O:Loc X.env.scope x) (he:PE X e z) (U:swapsWith e (some (.Name x n)) pos.line X.env=pure false:=by rfl) (hf:X.fn x=true\/X.env.scope.names.lookup x=some .local:=by first|exact .inl rfl|exact .inr rfl|assumption) :
  PS X (.Assign [.Name x n] e pos) (Jv z (xW i)):=by
 intro pins s σ H D I h
 refine wpAny_Assign_Name (bu (he pins s σ H _ I h) λv s1 B=>?_) U
 obtain ⟨y,H1,Z,J,q1⟩:=B
 exact rm Z hN hi O J (λs2 Y=>⟨_,H1,Y,q1⟩) hf
def ac3 (i:Nat) (n:TE) (ti:Za):TS:=λD σ H=>∃x,σ[i]? = some (some x)/\n σ H λy H1=>ti x y H1 λz H2=>D.nx (σ.set i (some z)) H2
theorem Vu {i:Nat} {x:Str} {e:Expr} {te:TE} {op:Operator} {ti:Za} {U:Pos} (hN:X.N.Nodup) (hi:X.N[i]? = some x) (hx:Loc X.env.scope x) (he:PE X e te) (ho:Zv X op ti) (hf:X.fn x=true\/X.env.scope.names.lookup x=some .local:=by first|exact .inl rfl|exact .inr rfl|assumption) :
  PS X (.AugAssign (.Name x U) op e pos) (ac3 i te ti):=by
 intro pins s σ H D I h
 obtain ⟨v,e1,h⟩:=h
 obtain ⟨m,hn,hl⟩:=I.loc
 have Z:Y_ X.env.scope x:=by rcases hx with k|k;exact .inl k;exact .inr (.inl k)
 obtain ⟨u,r,l⟩:=hl i x v hi e1 Z
 refine wpAny_AugAssign_Name ?_
 have go:wpAny (model X.prog X.w) X.A (eval e X.env) (λw O=>wpAny (model X.prog X.w) X.A (inplaceOp op u w) (λr J=>wpAny (model X.prog X.w) X.A (storeName X.env x r) (λ_=>SP X pins D .next) X.xe J) X.xe O) X.xe s:=by
  refine bu (he pins s σ H _ I h) λw s1 Y=>?_
  obtain ⟨y,H1,I1,r1,q1⟩:=Y
  refine bu (ho pins s1 σ H1 v y u w _ I1 r r1 q1) λz s2 Y=>?_
  obtain ⟨zv,H2,I2,r2,q2⟩:=Y
  exact rm I2 hN hi hx r2 (λs3 I3=>⟨_,H2,I3,q2⟩) hf
 rcases l with ⟨n,hm⟩|⟨n,c,hc,B⟩
 ·exact wpAny_loadName_local I.ok.kind n hn hm go
 ·rcases n with n|n
  ·exact wpAny_loadName_cell I.ok.kind n hc B go
  ·rcases hx with k|k
   ·have:X.env.scope.names.lookup x=some .free:=n
    rw [k] at this;cases this
   ·have:X.env.scope.names.lookup x=some .free:=n
    rw [k] at this;cases this
def Zy (J ti O:TE) (B:V->V->Hp->VK->Prop) (I:Za) (n:Jt):TS:=λD σ H=>J σ H λo H1=>ti σ H1 λi H2=>B o i H2 λx H3=>O σ H3 λy Z=>I x y Z λz Y=>n o i z Y λU=>D.nx σ U
def Zz (X:Cx) (t:V->V->Hp->VK->Prop):Prop:=
 ∀(pins:List (Addr × Obj)) (s:Shared) (σ:St) (H:Hp) (o i:V) (ov iv:Value) (Q:VK),Inv X pins σ H s->RelV o ov->RelV i iv->t o i H Q->
  wpAny (model X.prog X.w) X.A (getItem ov iv) (EP X pins σ Q) X.xe s
theorem Ql {o i e : Expr} {to ti te : TE} {B : V → V → Hp → VK → Prop} {Y : Za} {z : Jt} {op : Operator} {U : Pos} (ho : PE X o to) (hi : PE X i ti) (hg : Zz X B) (he : PE X e te) (hp : Zv X op Y) (hs : Vs X z)
    (ha : ∀ J O new, augStore i J O new = (do holding [new, J, O] (setItem J O new); release [new, J, O] []; pure .next) := by intros; rfl) : PS X (.AugAssign (.Subscript o i U) op e pos) (Zy to ti te B Y z) := by
  intro pins s σ H D I h
  refine wpAny_AugAssign_SubscriptAny (bu (ho pins s σ H _ I h) λJ s1 n=>?_) ha
  obtain ⟨x1, H1, I1, r1, q1⟩:=n
  refine bu (hi pins s1 σ H1 _ I1 q1) λO s2 n=>?_
  obtain ⟨x2, H2, I2, r2, q2⟩:=n
  refine bu (hg pins s2 σ H2 x1 x2 J O _ I2 r1 r2 q2) λZ s3 n=>?_
  obtain ⟨x3, H3, I3, r3, q3⟩:=n
  refine bu (he pins s3 σ H3 _ I3 q3) λv s4 n=>?_
  obtain ⟨x4, H4, I4, r4, q4⟩:=n
  refine bu (hp pins s4 σ H4 x3 x4 Z v _ I4 r3 r4 q4) λnew s5 n=>?_
  obtain ⟨x5, H5, I5, r5, q5⟩:=n
  exact bu (hs pins s5 σ H5 x1 x2 x5 J O new _ I5 r1 r2 r5 q5) λ_ s6 ⟨H6, I6, q6⟩ => ⟨σ, H6, I6, q6⟩
def ipI (f:Int->Int->Int):Za:=λx y H Q=>∃i j,x=.int i/\y=.int j/\Q (.int (f i j)) H
theorem Vv:Zv X .Add (ipI λi j=>i+j):=by
 intro pins s σ H x y v u Q I z n h
 obtain ⟨i,j,e1,e2,q⟩:=h
 subst e1;subst e2
 obtain ⟨t,rfl⟩:=z
 obtain ⟨B,rfl⟩:=n
 exact iadd_int ⟨.int _,H,I.tok _,⟨_,rfl⟩,q⟩
theorem Vw:Zv X .Sub (ipI λi j=>i - j):=by
 intro pins s σ H x y v u Q I z n h
 obtain ⟨i,j,e1,e2,q⟩:=h
 subst e1;subst e2
 obtain ⟨t,rfl⟩:=z
 obtain ⟨B,rfl⟩:=n
 exact isub_int ⟨.int _,H,I.tok _,⟨_,rfl⟩,q⟩
end
section
variable {X:Cx} {pos:Pos}
def Vx (c:TT) (z:TS):TS:=λD σ H=>∃W:Nat->St->Hp->Prop,(∃m,W m σ H)/\∀m σ H,W m σ H->
 c σ H λb H1=>if b=true then ∃N:St->Hp->Prop,(∀σ' H',N σ' H'->∃n,n<m/\W n σ' H')/\z { D with nx:=N,ct:=N,bk:=D.nx } σ H1 else D.nx σ H1
theorem xY {c:Expr} {body:List Stmt} {tc:TT} {tb:TS} (hp:PassesOwn (model X.prog X.w) X.A X.env X.xe) (hc:PT X c tc) (hb:gO X body tb):PS X (.While c body [] pos) (Vx tc tb):=by
 intro pins s σ H D I h
 obtain ⟨W,⟨m0,w0⟩,turn⟩:=h
 refine wpAny_While (codeAny_whileLoop (λn s'=>∃σ' H',Inv X pins σ' H' s'/\W n σ' H') ?_ m0 ⟨σ,H,I,w0⟩)
 rintro n s1 ⟨B,H1,I1,w1⟩
 refine xi hp (bu (hc pins s1 B H1 _ I1 (turn n B H1 w1)) λb s2 ⟨H2,I2,q2⟩=>?_)
 cases b with
 | true=>
  obtain ⟨N,hN,q2⟩:=q2
  rw [zm rfl]
  refine xi hp (bu (hb pins s2 B H2 _ I2 q2) λf s3 O=>?_)
  cases f with
  | next=>
   obtain ⟨z,J,I3,n3⟩:=O
   obtain ⟨Y,Z,U⟩:=hN z J n3
   exact ⟨Y,Z,z,J,I3,U⟩
  | cont=>
   obtain ⟨z,J,I3,n3⟩:=O
   obtain ⟨Y,Z,U⟩:=hN z J n3
   exact ⟨Y,Z,z,J,I3,U⟩
  | brk=>exact O
  | ret v=>exact O
 | false=>
  rw [zi ym]
  exact xI ⟨B,H2,I2,q2⟩
end
structure It where
 go:Nat->Hp->Prop
 Tq:Nat->Hp->V->Hp->Prop
 stop:Nat->Hp->Prop
theorem Inv.Vy {B:Hp} {s:Shared} (I:Inv X pins σ H s) (n:s.heap.objs.size<=b) (J:B b=none):lU X pins B b:=by
 refine ⟨J,Nat.ne_of_gt (zI I.lt n),I.Zm n,.inr (Heap.get?_none_of_le (zQ I.sz n)),λx c e z=>?_,λp D z=>?_⟩
 ·obtain ⟨v,q⟩:=I.cell x c e
  exact absurd (zI q.lt (by rw [z];exact n)) (xw _)
 ·exact absurd (zI (zF (I.pin p D).1) (by rw [z];exact n)) (xw _)
structure Turn (P:Program) (w:World) (K:PySem.W.Frag) (tg:Expr) (J:It) (fp:List Addr) (it:Addr) (tn:Nat->Heap->Prop):Prop where
 mem:it∈fp
 obj:∀i h,tn i h->∀b∈fp,∃o,h.get? b=some o/\∀v,o.data≠.cell v
 keep:∀i h h',tn i h->(∀b∈fp,∀o,h.get? b=some o->h'.get? b=some o)->tn i h'
 item:∀(X:Cx),X.prog=P->X.w=w->X.K=K->X.calm=true->∀(i:Nat) (pins:List (Addr × Obj)) (s:Shared) (σ:St) (H:Hp) (E:Value->Shared->Prop),Inv X pins σ H s->(∀b∈fp,lU X pins H b)->tn i s.heap->J.go i H->
  wpAny (model P w) X.A (pyNext (.ref it)) (λr s1=>∃u,r=some u /\
   wpAny (model P w) X.A (letOwnedTupleGo tg (.ref it) u) (λ_ s2=>∃x H',Inv X pins σ H' s2/\RelV x u/\J.Tq i H x H'/\tn (i+1) s2.heap/\∀b∈fp,H' b=none) E s1) E s
 done:∀(X:Cx),X.prog=P->X.w=w->X.K=K->X.calm=true->∀(i:Nat) (pins:List (Addr × Obj)) (s:Shared) (σ:St) (H:Hp) (E:Value->Shared->Prop),Inv X pins σ H s->(∀b∈fp,lU X pins H b)->tn i s.heap->J.stop i H->
  wpAny (model P w) X.A (pyNext (.ref it)) (λr s1=>r=none/\Inv X pins σ H s1) E s
 self:∀(A:Around) (i:Nat) (s:Shared) (Q:Value->Shared->Prop) (E:Value->Shared->Prop),tn i s.heap->Q (.ref it) s->wpAny (model P w) A (pyIter (.ref it)) Q E s
abbrev TI:=St->Hp->(It->Hp->Prop)->Prop
def PIE (X:Cx) (n:List (Addr × Obj)) (O:St) (U:Expr) (R:It->Hp->Prop) (z:Value) (D:Shared):Prop:=
 ∃(I:Addr) (fp:List Addr) (B:Nat->Heap->Prop) (J:It) (H':Hp),z=.ref I/\Inv X n O H' D/\Turn X.prog X.w X.K U J fp I B/\B 0 D.heap/\(∀b∈fp,lU X n H' b)/\R J H'
def PI (X:Cx) (B n:Expr) (z:TI):Prop:=
 ∀(pins:List (Addr × Obj)) (s:Shared) (σ:St) (H:Hp) (R:It->Hp->Prop),Inv X pins σ H s->z σ H R->
  wpAny (model X.prog X.w) X.A (eval n X.env) (λv D=>wpAny (model X.prog X.w) X.A (pyIter v) (PIE X pins σ B R) X.xe D) X.xe s
abbrev Vz:List String:=["enumerate","zip","dict_itemiterator","dict_reverseitemiterator","odict_iterator","itertools.zip_longest","itertools.pairwise"]
theorem ZC {M : Model} {A : Around} {E : Value → Shared → Prop} {s : Shared} {z : Expr} {B : Addr} {u : Value} {o : Obj} {n : String} {vs : Array Value} {Q : Unit → Shared → Prop} (D : s.heap.get? B = some o) (J : o.cls = .type n) (hd : o.data = .fields vs)
    (I : Vz.contains n = false) (hQ : Q () s) : wpAny M A (letOwnedTupleGo z (.ref B) u) Q E s := by
  unfold letOwnedTupleGo
  cases z <;> first
    | exact zC hQ
    | (cases u <;> first
        | exact zC hQ
        | (refine zh (wpAny_load D ?_)
           rw [J, hd]
           show wpAny M A (if (Vz.contains n && vs[0]? == some (rawInt _)) = true then _ else _) Q E s
           rw [zi (by intro h; rw [I, Bool.false_and] at h; cases h)]
           exact zC hQ))
def Itl (K:PySem.W.Frag) (a:Addr):It:=
 ⟨λi H=>∃xs x,jr K H a xs/\xs[i]? = some x,λi H x H'=>H'=H/\∀xs,jr K H a xs->xs[i]? = some x,λi H=>∃xs,jr K H a xs/\xs.length<=i⟩
def VB (lo d:Int) (n:Nat):It:=⟨λi _=>i<n,λi H x H'=>H'=H/\x=.int (lo+i * d),λi _=>n<=i⟩
theorem nu {P:Program} {w:World} {K:PySem.W.Frag} {tg:Expr} {J:It} {B:Addr} {D:Nat->Heap->Prop} {n:String} (hn:Vz.contains n=false) (obj:∀i h,D i h->∃o vs,h.get? B=some o/\o.cls=.type n/\o.data=.fields vs)
  (keep:∀i h h',D i h->(∀o,h.get? B=some o->h'.get? B=some o)->D i h')
  (item:∀(X:Cx),X.prog=P->X.w=w->X.K=K->X.calm=true->∀(i:Nat) (pins:List (Addr × Obj)) (s:Shared) (σ:St) (H:Hp) (E:Value->Shared->Prop) (Q:Option Value->Shared->Prop),Inv X pins σ H s->D i s.heap->J.go i H->
   (∀u x h' tk,RelV x u->J.Tq i H x H->D (i+1) h'->(∀b o,b≠B->s.heap.get? b=some o->h'.get? b=some o)->Q (some u) { s with heap:=h',toks:=tk })->wpAny (model P w) X.A (pyNext (.ref B)) Q E s)
  (done:∀(X:Cx),X.prog=P->X.w=w->X.K=K->X.calm=true->∀(i:Nat) (pins:List (Addr × Obj)) (s:Shared) (σ:St) (H:Hp) (E:Value->Shared->Prop) (Q:Option Value->Shared->Prop),Inv X pins σ H s->D i s.heap->J.stop i H->
   (∀h',(∀b o,b≠B->s.heap.get? b=some o->h'.get? b=some o)->Q none { s with heap:=h' })->wpAny (model P w) X.A (pyNext (.ref B)) Q E s)
  (self:∀(A:Around) (i:Nat) (s:Shared) (Q:Value->Shared->Prop) (E:Value->Shared->Prop),D i s.heap->Q (.ref B) s->wpAny (model P w) A (pyIter (.ref B)) Q E s):Turn P w K tg J [B] B D where
 mem:=zA.mpr rfl
 obj:=λi h st b hb=>by
  obtain ⟨o,vs,e,_,d⟩:=obj i h st
  rw [zA.mp hb]
  exact ⟨o,e,λv z=>by rw [d] at z;cases z⟩
 keep:=λi h h' st k=>keep i h h' st (k B (zA.mpr rfl))
 item:=λX hP U hK Z i pins s σ H E I hf st Y=>item X hP U hK Z i pins s σ H E _ I st Y λu x h' tk r y O k=>by
  obtain ⟨o,vs,e,c,d⟩:=obj _ _ O
  exact ⟨u,rfl,ZC (s:={ s with heap:=h',toks:=tk }) e c d hn ⟨x,H,I.turned (hf B (zA.mpr rfl)) k,r,y,O,λb hb=>(hf b hb).1⟩⟩
 done:=λX hP U hK Z i pins s σ H E I hf st Y=>done X hP U hK Z i pins s σ H E _ I st Y λh' k=>⟨rfl,I.turned (t':=s.toks) (hf B (zA.mpr rfl)) k⟩
 self:=self
theorem Hl {P:Program} {w:World} {K:PySem.W.Frag} {tg:Expr} (a O:Addr):Turn P w K tg (Itl K a) [O] O (λi h=>h.IsListIter O a i):=
 nu (n:="list_iterator") (by decide) (λi h st=>by obtain ⟨o,e,c,d⟩:=st;exact ⟨o,_,e,c,d⟩) (λi h h' st k=>st.at k)
  (λX hP Y hK hc i pins s σ H E Q I st Z q=>by
   subst hP Y hK
   obtain ⟨xs,x,z,U⟩:=Z
   obtain ⟨J,D,p,hz⟩:=I.list z
   obtain ⟨u,hu,ru⟩:=D.get U
   exact wpAny_pyNext_list_item st p.isList (x:=u) (by simpa using hu) λh' B sb=>q u x h' s.toks ru ⟨rfl,λys hy=>by rw [I.rC hy z];exact U⟩ B λb o hb e=>(sb.2 b hb).trans e)
  (λX hP Y hK hc i pins s σ H E Q I st Z q=>by
   subst hP Y hK
   obtain ⟨xs,z,U⟩:=Z
   obtain ⟨J,D,p,hz⟩:=I.list z
   have hl:=D.length
   exact wpAny_pyNext_list_end (I.ok.hd hc) st p.isList (by simp;omega) q)
  λ_ _ _ _ _ st h=>wpAny_pyIter_listiter st h
theorem lW {P:Program} {w:World} {K:PySem.W.Frag} {Z:Expr} (z:Addr) (lo d:Int) (n:Nat):Turn P w K Z (VB lo d n) [z] z (λi h=>IsRangeIter h z (lo+(i:Nat) * d) ((n:Int) - (i:Nat)) d):=
 nu (n:="range_iterator") (by decide) (λi h st=>⟨_,_,st,rfl,rfl⟩) (λi h h' st k=>k _ st)
  (λX U D Y O i pins s σ H E Q I st J q=>by
   subst U D Y
   refine (Walks.range (prog:=X.prog) (w:=X.w) (I.ok.hd O) z lo d n).item i s _ _ J st λv h' tk hv B kk=>?_
   obtain ⟨t,rfl⟩:=hv
   exact q _ (.int (lo+i * d)) h' tk ⟨t,rfl⟩ ⟨rfl,rfl⟩ B λb o hb e=>kk b o (by simpa using hb) e)
  (λX U D Y O i pins s σ H E Q I st J q=>by
   subst U D Y
   exact wpAny_pyNext_range_end (I.ok.hd O) st (by have:n<=i:=J;omega) q)
  λ_ _ _ _ _ st h=>wpAny_pyIter_rangeiter st h
section
variable {X:Cx} {tg:Expr}
def Tr (K:PySem.W.Frag) (n:TE):TI:=λσ H R=>n σ H λx H1=>∃a,x=.ref a/\(∃xs,jr K H1 a xs)/\R (Itl K a) H1
theorem Hq {n:List (Addr × Obj)} {z:St} {H:Hp} {s:Shared} {o:Obj} {t:Nat} {B:Addr->Nat->Heap->Prop} {J:It} {R:It->Hp->Prop} (I:Inv X n z H s) (T:∀it,Turn X.prog X.w X.K tg J [it] it (B it)) (st:B s.heap.objs.size 0 (s.heap.push o)) (q:R J H) :
  PIE X n z tg R (.ref s.heap.objs.size) { s with heap:=s.heap.push o,toks:=t }:=
 ⟨_,[s.heap.objs.size],_,J,H,rfl,I.kept λb o e=>zu _ e,T _,st,λb D=>by rw [zA.mp D];exact I.Vy (zx _) (I.hok.fresh (zx _)),q⟩
theorem Qm {l:Expr} {n:TE} (U:PE X l n):PI X tg l (Tr X.K n):=by
 intro pins s σ H R I h
 refine bu (U pins s σ H _ I h) λv Y B=>?_
 obtain ⟨x,H1,z,D,a,e,⟨xs,O⟩,q⟩:=B
 subst e
 cases D
 obtain ⟨J,Z,p,hz⟩:=z.list O
 exact wpAny_pyIter_list p.isList (Hq z (Hl a) ⟨_,zD _ rfl,rfl,rfl⟩ q)
theorem rD {h:Heap} {z:Addr} {lo d:Int} {n:Nat} (e:IsRangeIter h z lo n d):IsRangeIter h z (lo+((0:Nat):Int) * d) ((n:Int) - ((0:Nat):Int)) d:=by simpa using e
theorem xZ {n:List (Addr × Obj)} {z:St} {H:Hp} {s:Shared} {R:It->Hp->Prop} {E:Value->Shared->Prop} {lo hi:Int} {t u v:Tok} {B:Nat} (I:Inv X n z H s) (Y:-(2 ^ 62)<=lo) (U:lo<2 ^ 62) (O:-(2 ^ 62)<=hi) (J:hi<2 ^ 62)
  (q:R (VB lo 1 (hi - lo).toNat) H):wpAny (model X.prog X.w) X.A (pyIter (.ref s.heap.objs.size)) (PIE X n z tg R) E { s with heap:=s.heap.push { cls:=.type "range",data:=.fields #[.int lo t,.int hi u,.int 1 v] },toks:=B }:=by
 have e2:Builtin.Range.rangeSize lo hi 1=((hi - lo).toNat:Int):=by rw [rangeSize_one];split<;>omega
 refine wpAny_pyIter_range (IsRange.new ..) (small_one Y U O J) ?_
 rw [e2]
 exact Hq (s:={ s with heap:=s.heap.push { cls:=.type "range",data:=.fields #[.int lo t,.int hi u,.int 1 v] },toks:=B }) (I.kept λb o e=>zu _ e) (λD=>lW D lo 1 _) (rD (zD _ rfl)) q
def ZD (n:TA):TI:=λσ H R=>n σ H λvs H1=>∃j:Int,vs=[.int j]/\-(2 ^ 62)<=j/\j<2 ^ 62/\R (VB 0 1 j.toNat) H1
def ZF (n:TA):TI:=λσ H R=>n σ H λvs H1=>∃i j:Int,vs=[.int i,.int j]/\(-(2 ^ 62)<=i/\i<2 ^ 62/\-(2 ^ 62)<=j/\j<2 ^ 62)/\R (VB i 1 (j - i).toNat) H1
theorem Hr {a:Expr} {n:TA} {p pos:Pos} (O:Gl X "range") (J:X.mg "range"=none) (U:PA X [a] n) (D:starEach [a] X.env=[(false,eval a X.env)]:=by rfl):PI X tg (.Call (.Name "range" p) [a] [] pos) (ZD n):=by
 intro pins s σ H R I h
 refine Call_ (gD I O J boot_range (zX (bu (U pos pins s σ H _ I h) λZ s1 z=>?_) D rfl))
 obtain ⟨vs,H1,Y,B,q1⟩:=z
 obtain ⟨j,e,q1,q2,q⟩:=q1
 subst e
 cases B with
 | cons r rr=>
  cases rr
  obtain ⟨t,rfl⟩:=r
  exact call_range_1 (xZ Y (by omega) (by omega) q1 q2 (by simpa using q))
theorem Ht {a b:Expr} {z:TA} {p pos:Pos} (Z:Gl X "range") (Y:X.mg "range"=none) (ha:PA X [a,b] z) (U:starEach [a,b] X.env=[(false,eval a X.env),(false,eval b X.env)]:=by rfl) (n:starEach [b] X.env=[(false,eval b X.env)]:=by rfl) :
  PI X tg (.Call (.Name "range" p) [a,b] [] pos) (ZF z):=by
 intro pins s σ H R I h
 refine Call_ (gD I Z Y boot_range (zX (bu (ha pos pins s σ H _ I h) λus s1 B=>?_) (by rw [U,n]) (by rw [n];rfl)))
 obtain ⟨vs,H1,I1,D,q1⟩:=B
 obtain ⟨i,j,e,⟨q1,q2,O,J⟩,q⟩:=q1
 subst e
 cases D with
 | cons r rr=>
  cases rr with
  | cons r' rr=>
   cases rr
   obtain ⟨t,rfl⟩:=r
   obtain ⟨t',rfl⟩:=r'
   exact call_range_2 (xZ I1 q1 q2 O J q)
def ac6 (B:TI) (g:TG) (I:TS):TS:=λD σ H=>B σ H λJ H1=>∃W:Nat->Nat->St->Hp->Prop,(∃m,W 0 m σ H1)/\∀i m σ H,W i m σ H->
 (J.stop i H/\D.nx σ H)\/(J.go i H/\∃N:St->Hp->Prop,(∀σ' H',N σ' H'->∃z,z<m/\W (i+1) z σ' H')/\∀x H',J.Tq i H x H'->g x σ H' λn H2=>I { D with nx:=N,ct:=N,bk:=D.nx } n H2)
def rE (n:List Addr) (h:Heap):List (Addr × Obj):=n.filterMap λb=>(h.get? b).map λo=>(b,o)
theorem lX {n:List Addr} {h:Heap} {b:Addr} {o:Obj} (z:b∈n) (e:h.get? b=some o):(b,o)∈rE n h:=List.mem_filterMap.mpr ⟨b,z,by rw [e];rfl⟩
theorem Hu {h:Heap} {p:Addr × Obj} (n:p∈rE fp h):p.1∈fp/\h.get? p.1=some p.2:=by
 obtain ⟨b,z,e⟩:=List.mem_filterMap.mp n
 cases q:h.get? b with
 | none=>rw [q] at e;cases e
 | some o=>
  rw [q] at e
  have B:(b,o)=p:=yg e
  subst B
  exact ⟨z,q⟩
theorem Inv.pinned {n:St} {s:Shared} (I:Inv X pins n H s) (hf:∀b∈fp,lU X pins H b) (O:∀b∈fp,∃o,s.heap.get? b=some o/\∀v,o.data≠.cell v):Inv X (pins++rE fp s.heap) n H s:=
 I.qF λp J=>(zN.mp J).elim (λz=>I.pin p (yz _ z)) λz=>by
  obtain ⟨B,e⟩:=Hu z
  obtain ⟨f0,Y,U,_⟩:=hf p.1 B
  obtain ⟨o,D,d⟩:=O p.1 B
  rw [e] at D;cases D
  exact ⟨e,f0,Y,U,d⟩
theorem Inv.nF (I:Inv X (pins++pl) σ H s):Inv X pins σ H s:=I.qF λp n=>I.pin p (yz _ (yM _ n))
theorem Jw {U:Expr} {body:List Stmt} {wi:TI} {g:TG} {tb:TS} {pos:Pos} (hp:PassesOwn (model X.prog X.w) X.A X.env X.xe) (hc:X.calm=true) (hi:PI X tg U wi) (hg:PG X tg g) (Y:gO X body tb)
  (hs:∀x,foldedSetIterable U X.env x=pure x:=by intro _;rfl):PS X (.For tg U body [] pos) (ac6 wi g tb):=by
 intro pins s σ H D I h
 refine wpAny_For (bu (hi pins s σ H _ I h) λv s1 h1=>bu h1 λitv s2 h2=>?_) hs
 obtain ⟨it,fp,tn,J,H2,e,I2,T,st2,f2,W,⟨m0,w0⟩,turn⟩:=h2
 subst e
 -- what stays true of the iterator's objects through the loop
 have O:∀{H':Hp},(∀b∈fp,H' b=none)->∀b∈fp,lU X pins H' b:=λhn b Y=>⟨hn b Y,(f2 b Y).2⟩
 refine codeAny_forLoop_any (λn s'=>∃i σ' H',Inv X pins σ' H' s'/\tn i s'.heap/\(∀b∈fp,H' b=none)/\W i n σ' H') ?_ m0 ⟨0,σ,H2,I2,st2,λb Y=>(f2 b Y).1,w0⟩
 rintro n s3 ⟨i,B,H3,I3,st3,fr3,w3⟩
 rcases turn i n B H3 w3 with ⟨stop,qn⟩|⟨go,N,hN,step⟩
 ·refine xi hp (bu (T.done X rfl rfl rfl hc i pins s3 B H3 X.xe I3 (O fr3) st3 stop) λr s4 zq=>?_)
  obtain ⟨hr,I4⟩:=zq
  subst hr
  exact xI ⟨B,H3,I4,qn⟩
 ·refine xi hp (bu (T.item X rfl rfl rfl hc i pins s3 B H3 X.xe I3 (O fr3) st3 go) λr s4 zq=>?_)
  obtain ⟨u,hr,h4⟩:=zq
  subst hr
  refine xi hp (bu h4 λ_ s5 zq=>?_)
  obtain ⟨x,H5,I5,r5,y5,st5,fr5⟩:=zq
  have I5':=I5.pinned (O fr5) (T.obj _ _ st5)
  refine xi hp (bu (hg _ s5 B H5 x u _ I5' r5 (step x H5 y5)) λ_ s6 zq=>?_)
  obtain ⟨σ6,H6,I6,q6⟩:=zq
  refine xi hp (bu (Y _ s6 σ6 H6 _ I6 q6) λf s7 q7=>?_)
  have Z:∀{z:St} {H7:Hp},Inv X (pins++rE fp s5.heap) z H7 s7->N z H7->∃m,m<n/\∃i σ' H',Inv X pins σ' H' s7/\tn i s7.heap/\(∀b∈fp,H' b=none)/\W i m σ' H':=λ{z H7} I7 n7=>by
   obtain ⟨m',hm,w7⟩:=hN z H7 n7
   refine ⟨m',hm,i+1,z,H7,I7.nF,T.keep _ _ _ st5 λb Y o e=>(I7.pin (b,o) (yz _ (yz _ (lX Y e)))).1,λb Y=>?_,w7⟩
   obtain ⟨o,e,d⟩:=T.obj _ _ st5 b Y
   exact (I7.pin (b,o) (yz _ (yz _ (lX Y e)))).2.1
  cases f with
  | next=>obtain ⟨z,H7,I7,n7⟩:=q7;exact Z I7 n7
  | cont=>obtain ⟨z,H7,I7,n7⟩:=q7;exact Z I7 n7
  | brk=>obtain ⟨z,H7,I7,q7⟩:=q7;exact ⟨z,H7,I7.nF,q7⟩
  | ret v=>obtain ⟨x7,z,H7,I7,r7,q7⟩:=q7;exact ⟨x7,z,H7,I7.nF,r7,q7⟩
end
abbrev R2:=V->V->Hp->VK->Prop
def iB (X:Cx) (f:Value->Value->Sem Value) (r:R2):Prop:=
 ∀(pins:List (Addr × Obj)) (s:Shared) (σ:St) (H:Hp) (x y:V) (v u:Value) (Q:VK),Inv X pins σ H s->RelV x v->RelV y u->r x y H Q->
  wpAny (model X.prog X.w) X.A (f v u) (EP X pins σ Q) X.xe s
def UnR (X:Cx) (f:Value->Sem Value) (r:V->Hp->VK->Prop):Prop:=
 ∀(pins:List (Addr × Obj)) (s:Shared) (σ:St) (H:Hp) (x:V) (v:Value) (Q:VK),Inv X pins σ H s->RelV x v->r x H Q->
  wpAny (model X.prog X.w) X.A (f v) (EP X pins σ Q) X.xe s
def jR (X:Cx) (f:Value) (r:List V->Hp->VK->Prop):Prop:=
 ∀(pins:List (Addr × Obj)) (s:Shared) (σ:St) (H:Hp) (xs:List V) (us:List Value) (Q:VK),Inv X pins σ H s->Vals xs us->r xs H Q->
  wpAny (model X.prog X.w) X.A (call f us) (EP X pins σ Q) X.xe s
def ZG (r:R2) (z n:TE):TE:=λσ H Q=>z σ H λx H1=>n σ H1 λy H2=>r x y H2 Q
def tUn (r:V->Hp->VK->Prop) (n:TE):TE:=λσ H Q=>n σ H λx H1=>r x H1 Q
def rI (C:Int->Int->Prop) (g:Int->Int->V):R2:=λx y H Q=>∃i j,x=.int i/\y=.int j/\C i j/\Q (g i j) H
def CK (g:Int->Int->V):R2:=λx y H Q=>∃i j,x=.int i/\y=.int j/\Q (g i j) H
def rU (g:Int->V):V->Hp->VK->Prop:=λx H Q=>∃i,x=.int i/\Q (g i) H
section
variable {X:Cx} {a b c:Expr} {ta tb tc:TE} {pos:Pos}
theorem Qn (ha:PE X a ta) (hb:PE X b tb) {n:List (Addr × Obj)} {s:Shared} {z:St} {H:Hp} {R:V->V->Hp->Prop} (I:Inv X n z H s)
  (h:ta z H λx H1=>tb z H1 λy H2=>R x y H2) {Q:Value->Shared->Prop} {f:Value->Value->Sem Value}
  (hf:∀v u J x y H2,Inv X n z H2 J->RelV x v->RelV y u->R x y H2->wpAny (model X.prog X.w) X.A (f v u) Q X.xe J) :
  wpAny (model X.prog X.w) X.A (eval a X.env) (λv D=>wpAny (model X.prog X.w) X.A (eval b X.env) (λu B=>wpAny (model X.prog X.w) X.A (f v u) Q X.xe B) X.xe D) X.xe s:=by
 refine bu (ha n s z H _ I h) λv U O=>?_
 obtain ⟨x,H1,I1,Z,q1⟩:=O
 refine bu (hb n U z H1 _ I1 q1) λu J O=>?_
 obtain ⟨y,H2,I2,Y,q2⟩:=O
 exact hf v u J x y H2 I2 Z Y q2
theorem ur {n:Operator} {r:R2} (J:iB X (binaryOp n) r) (U:PE X a ta) (O:PE X b tb):PE X (.BinOp a n b pos) (ZG r ta tb):=by
 intro pins s σ H Q I h
 exact wpAny_BinOp (Qn U O I h λv u z x y H2 Y D B q=>J pins z σ H2 x y v u Q Y D B q)
theorem Tt {n:UnaryOp} {r:V->Hp->VK->Prop} (J:UnR X (unaryOp n) r) (O:PE X a ta):PE X (.UnaryOp n a pos) (tUn r ta):=by
 intro pins s σ H Q I h
 exact UnaryOp_ (bu (O pins s σ H _ I h) λv B z=>by obtain ⟨x,H1,U,D,q1⟩:=z;exact J pins B σ H1 x v Q U D q1)
theorem Zb {f:Value->Value->Sem Value} {C:Int->Int->Prop} {g:Int->Int->Int}
  (n:∀(i j:Int) (t u:Tok) (s:Shared) (Q:Value->Shared->Prop) (E:Value->Shared->Prop),C i j->Q (.int (g i j) s.toks) { s with toks:=s.toks+1 }->wpAny (model X.prog X.w) X.A (f (.int i t) (.int j u)) Q E s) :
  iB X f (rI C λi j=>.int (g i j)):=by
 intro pins s σ H x y v u Q I D B h
 obtain ⟨i,j,rfl,rfl,J,q⟩:=h
 obtain ⟨t,rfl⟩:=D
 obtain ⟨z,rfl⟩:=B
 exact n i j t z s _ _ J ⟨.int (g i j),H,I.tok _,⟨_,rfl⟩,q⟩
theorem Jx {f:Value->Value->Sem Value} {g:Int->Int->Int}
  (n:∀(i j:Int) (t u:Tok) (s:Shared) (Q:Value->Shared->Prop) (E:Value->Shared->Prop),Q (.int (g i j) s.toks) { s with toks:=s.toks+1 }->wpAny (model X.prog X.w) X.A (f (.int i t) (.int j u)) Q E s) :
  iB X f (CK λi j=>.int (g i j)):=by
 intro pins s σ H x y v u Q I D B h
 obtain ⟨i,j,rfl,rfl,q⟩:=h
 obtain ⟨t,rfl⟩:=D
 obtain ⟨z,rfl⟩:=B
 exact n i j t z s _ _ ⟨.int (g i j),H,I.tok _,⟨_,rfl⟩,q⟩
theorem Qo {f:Value->Value->Sem Value} {g:Int->Int->Bool}
  (n:∀(i j:Int) (t u:Tok) (s:Shared) (Q:Value->Shared->Prop) (E:Value->Shared->Prop),Q (.bool (g i j)) s->wpAny (model X.prog X.w) X.A (f (.int i t) (.int j u)) Q E s) :
  iB X f (CK λi j=>.bl (g i j)):=by
 intro pins s σ H x y v u Q I D B h
 obtain ⟨i,j,rfl,rfl,q⟩:=h
 obtain ⟨t,rfl⟩:=D
 obtain ⟨z,rfl⟩:=B
 exact n i j t z s _ _ ⟨.bl (g i j),H,I,rfl,q⟩
def Qp (i j:Int):Prop:=0<j/\j<1073741824
def VD (i j:Int):Prop:=0<=j/\j<=1000000/\i.natAbs<2 ^ 64
def CN (i j:Int):Prop:=(-(2 ^ 64)<i/\i<2 ^ 64)\/(-(2 ^ 64)<j/\j<2 ^ 64)
theorem CN.ok {i j:Int} (h:CN i j):IntMulOk i j:=by
 rcases h with ⟨h1,h2⟩|⟨h1,h2⟩
 ·exact .of_left (intBits_le_64 h1 h2)
 ·exact .of_right (intBits_le_64 h1 h2)
theorem VF:iB X (binaryOp .Add) (CK λi j=>.int (i+j)):=Jx λ_ _ _ _ _ _ _ q=>add_int q
theorem VG:iB X (binaryOp .Sub) (CK λi j=>.int (i - j)):=Jx λ_ _ _ _ _ _ _ q=>sub_int q
theorem VH:iB X (binaryOp .Mult) (rI CN λi j=>.int (i * j)):=Zb λ_ _ _ _ _ _ _ n q=>mul_int q n.ok
theorem acp:iB X (binaryOp .FloorDiv) (rI Qp λi j=>.int (i / j)):=Zb λi j _ _ _ _ _ n q=>by
 have h1:(0:Int)<j:=n.1
 have h2:j<1073741824:=n.2
 exact floordiv_int (by omega) (by rw [Int.fdiv_eq_ediv_of_nonneg i (by omega)];exact q) (.inl (PyProof.noPylong_small (by omega)))
theorem VJ:iB X (binaryOp .Mod) (rI (λ_ j=>0<j) λi j=>.int (i % j)):=Zb λi j _ _ _ _ _ n q=>by
 have h1:(0:Int)<j:=n
 exact mod_int' (by omega) (by rw [Int.fmod_eq_emod_of_nonneg i (by omega)];exact q)
theorem VL:iB X (binaryOp .Pow) (rI VD λi j=>.int (i ^ j.toNat)):=Zb λ_ _ _ _ _ _ _ n q=>pow_int_small n.1 n.2.1 n.2.2 q
theorem VM:iB X (binaryOp .BitAnd) (CK λi j=>.int (Builtin.bitAnd i j)):=Jx λ_ _ _ _ _ _ _ q=>and_int q
theorem Qq:iB X (inplaceOp .Add) (CK λi j=>.int (i+j)):=Jx λ_ _ _ _ _ _ _ q=>iadd_int q
theorem Qs:iB X (inplaceOp .Sub) (CK λi j=>.int (i - j)):=Jx λ_ _ _ _ _ _ _ q=>isub_int q
theorem Qt:iB X (inplaceOp .Mult) (rI CN λi j=>.int (i * j)):=Zb λ_ _ _ _ _ _ _ n q=>imul_int q n.ok
theorem unI {f:Value->Sem Value} {g:Int->Int}
  (n:∀(i:Int) (t:Tok) (s:Shared) (Q:Value->Shared->Prop) (E:Value->Shared->Prop),Q (.int (g i) s.toks) { s with toks:=s.toks+1 }->wpAny (model X.prog X.w) X.A (f (.int i t)) Q E s) :
  UnR X f (rU λi=>.int (g i)):=by
 intro pins s σ H x v Q I z h
 obtain ⟨i,rfl,q⟩:=h
 obtain ⟨t,rfl⟩:=z
 exact n i t s _ _ ⟨.int (g i),H,I.tok _,⟨_,rfl⟩,q⟩
theorem Jy:UnR X (unaryOp .USub) (rU λi=>.int (-i)):=unI λ_ _ _ _ _ q=>neg_int q
end
inductive Jz:V->V->Bool->Prop
 | int (i j:Int):Jz (.int i) (.int j) (decide (i=j))
 | bl (i j:Bool):Jz (.bl i) (.bl j) (decide (i=j))
 | str (i j:Str):Jz (.str i) (.str j) (decide (i=j))
def rEq (f:Bool->Bool):R2:=λx y H Q=>∃k,Jz x y k/\Q (.bl (f k)) H
section
variable {X:Cx} {a b c:Expr} {ta tb tc:TE} {pos:Pos}
theorem Tu:iB X (compareOp .Eq) (rEq λk=>k):=by
 intro pins s σ H x y v u Q I z n h
 obtain ⟨k,h,q⟩:=h
 cases h with
 | int i j=>obtain ⟨t,rfl⟩:=z;obtain ⟨B,rfl⟩:=n;exact eq_int ⟨.bl _,H,I,rfl,q⟩
 | bl i j=>cases z;cases n;exact eq_bool ⟨.bl _,H,I,rfl,q⟩
 | str i j=>obtain ⟨t,rfl⟩:=z;obtain ⟨B,rfl⟩:=n;exact eq_str ⟨.bl _,H,I,rfl,q⟩
theorem Tv:iB X (compareOp .NotEq) (rEq λk=>!k):=by
 intro pins s σ H x y v u Q I z n h
 obtain ⟨k,h,q⟩:=h
 cases h with
 | int i j=>obtain ⟨t,rfl⟩:=z;obtain ⟨B,rfl⟩:=n;exact ne_int ⟨.bl _,H,I,rfl,q⟩
 | bl i j=>cases z;cases n;exact ne_bool ⟨.bl _,H,I,rfl,q⟩
 | str i j=>obtain ⟨t,rfl⟩:=z;obtain ⟨B,rfl⟩:=n;exact ne_str ⟨.bl _,H,I,rfl,q⟩
theorem ZJ:iB X (compareOp .Lt) (CK λi j=>.bl (decide (i<j))):=Qo λ_ _ _ _ _ _ _ q=>lt_int q
theorem rF:iB X (compareOp .LtE) (CK λi j=>.bl (decide (i<=j))):=Qo λ_ _ _ _ _ _ _ q=>le_int q
theorem ZK:iB X (compareOp .Gt) (CK λi j=>.bl (decide (j<i))):=Qo λ_ _ _ _ _ _ _ q=>gt_int q
theorem ZL:iB X (compareOp .GtE) (CK λi j=>.bl (decide (j<=i))):=Qo λ_ _ _ _ _ _ _ q=>ge_int q
theorem gF (b:Expr) {n:CmpOp} (h:n≠.In:=by decide) (z:n≠.NotIn:=by decide):behindInMarks n b=false:=by
 have e1:(n == CmpOp.In)=false:=by cases n<;>first|rfl|exact absurd rfl h
 have e2:(n == CmpOp.NotIn)=false:=by cases n<;>first|rfl|exact absurd rfl z
 cases b<;>simp [behindInMarks,e1,e2]
theorem vf {n:CmpOp} {r:R2} (J:iB X (compareOp n) r) (Y:PE X a ta) (U:PE X b tb) (O:behindInMarks n b=false):PE X (.Compare a [n] [b] pos) (ZG r ta tb):=by
 intro pins s σ H Q I h
 exact wpAny_Compare1 (Qn Y U I h λv u z x y H2 Z D B q=>J pins z σ H2 x y v u Q Z D B q) O
def Tw (t:TE):TT:=λσ H Q=>t σ H λx H'=>∃k,x=.bl k/\Q k H'
theorem fY {n:CmpOp} {r:R2} (Z:iB X (compareOp n) r) (ha:PE X a ta) (hb:PE X b tb) (hm:behindInMarks n b=false):PT X (.Compare a [n] [b] pos) (Tw (ZG r ta tb)):=by
 intro pins s σ H Q I h
 refine wpAny_isTrue_Compare1 (bu (ha pins s σ H _ I h) λv D ⟨x,H1,I1,U,q1⟩=>bu (hb pins D σ H1 _ I1 q1) λu B ⟨y,H2,I2,O,q2⟩=>
  bu (Z pins B σ H2 x y v u _ I2 U O q2) λc s3 ⟨z,H3,I3,J,k,e,Y⟩=>?_) hm
 subst e
 cases J
 exact yy ⟨H3,I3,Y⟩
def VN (r O:R2) (J I D:TE):TE:=λσ H Q=>J σ H λx H1=>I σ H1 λy H2=>r x y H2 λz n=>∃k,z=.bl k /\
 (if k=true then D σ n λB U=>O y B U Q else Q (.bl false) n)
theorem JB {B n:CmpOp} {r O:R2} (ho:iB X (compareOp B) r) (D:iB X (compareOp n) O) (ha:PE X a ta) (hb:PE X b tb) (hc:PE X c tc)
  (hm:lastMarks [B,n] [b,c]=false:=by with_unfolding_all rfl):PT X (.Compare a [B,n] [b,c] pos) (Tw (VN r O ta tb tc)):=by
 intro pins s σ H Q I h
 refine isTrue_chain (bu (ha pins s σ H _ I h) λv s1 ⟨x,H1,I1,r1,q1⟩=>test_link (bu (hb pins s1 σ H1 _ I1 q1) λu s2 ⟨y,H2,I2,J,q2⟩=>
  bu (ho pins s2 σ H2 x y v u _ I2 r1 J q2) λd s3 ⟨z,Z,Y,r3,k,e,U⟩=>?_)) hm
 subst e
 cases r3
 refine yy ?_
 cases k with
 | false=>
  obtain ⟨k',e',q'⟩:=U
  cases e'
  exact ite_ff ⟨Z,Y,q'⟩
 | true=>
  refine ite_tt (test_last (bu (hc pins s3 σ Z _ Y U) λw' s4 ⟨z',H4,I4,r4,q4⟩=>bu (D pins s4 σ H4 y z' u w' _ I4 J r4 q4) λd' s5 zq=>?_))
  obtain ⟨z2,H5,I5,r5,k2,e2,q5⟩:=zq
  subst e2
  cases r5
  exact yy ⟨H5,I5,q5⟩
theorem lY:(sizeLine:Nat)<2 ^ 63:=by rw [xn];decide
theorem CP:iB X (binaryOp .Add) (λx y H Q=>∃i j,x=.str i/\y=.str j/\i.length+j.length<=sizeLine/\Q (.str (i++j)) H):=by
 intro pins s σ H x y v u Q I B z h
 obtain ⟨i,j,rfl,rfl,D,q⟩:=h
 obtain ⟨t,rfl⟩:=B
 obtain ⟨n,rfl⟩:=z
 exact add_str (λn tk=>⟨.str (i++j),H,I.tok _,⟨_,rfl⟩,q⟩) D
theorem vals1 (r:Vals [x] us):∃u,us=[u]/\RelV x u:=by
 cases r with
 | cons r1 r2=>cases r2;exact ⟨_,rfl,r1⟩
theorem vals2 (r:Vals [x,y] us):∃u w',us=[u,w']/\RelV x u/\RelV y w':=by
 cases r with
 | cons r1 r2=>
  cases r2 with
  | cons r3 r4=>cases r4;exact ⟨_,_,rfl,r1,r3⟩
theorem Hv (z:X.calm=true):jR X (.builtin "min") (λxs H Q=>∃i j,xs=[.int i,.int j]/\Q (.int (if j<i then j else i)) H):=by
 intro pins s σ H xs D Q I r h
 obtain ⟨i,j,rfl,q⟩:=h
 obtain ⟨u,B,rfl,⟨t,rfl⟩,⟨J,rfl⟩⟩:=vals2 r
 refine min_two_ints (I.ok.hd z) λh' tk k=>⟨_,H,I.kept k,?_,q⟩
 by_cases n:j<i
 ·rw [zm n,zm n];exact ⟨_,rfl⟩
 ·rw [zi n,zi n];exact ⟨_,rfl⟩
theorem Hw:jR X (.type "int") (λxs H Q=>(∃i,xs=[.int i]/\Q (.int i) H)\/∃k,xs=[.bl k]/\Q (.int (if k then 1 else 0)) H):=by
 intro pins s σ H xs z Q I r h
 rcases h with ⟨i,rfl,q⟩|⟨k,rfl,q⟩
 ·obtain ⟨u,rfl,t,rfl⟩:=vals1 r
  exact call_int_int ⟨.int i,H,I,⟨_,rfl⟩,q⟩
 ·obtain ⟨u,rfl,n⟩:=vals1 r
  cases n
  exact call_int_bool ⟨.int (if k then 1 else 0),H,I.tok _,⟨_,rfl⟩,q⟩
theorem vg:jR X (.type "str") (λxs H Q=>∃i,xs=[.int i]/\i.natAbs.log2<1920/\Q (.str (toString i)) H):=by
 intro pins s σ H xs z Q I r h
 obtain ⟨i,rfl,n,q⟩:=h
 obtain ⟨u,rfl,t,rfl⟩:=vals1 r
 exact PySem.P.str_of_int n ⟨.str _,H,I.tok _,⟨_,rfl⟩,q⟩
theorem x_:jR X (.builtin "divmod") (λxs H Q=>∃i j,xs=[.int i,.int j]/\Qp i j/\∀p,H p=none->Q (.ref p) (upd H p (.tup [.int (i / j),.int (i % j)]))):=by
 intro pins s σ H xs B Q I r h
 obtain ⟨i,j,rfl,⟨h1,h2⟩,q⟩:=h
 obtain ⟨u,z,rfl,⟨t,rfl⟩,⟨D,rfl⟩⟩:=vals2 r
 refine divmod_int (by omega) ?_ (.inl (PyProof.noPylong_small (by omega)))
 rw [Int.fdiv_eq_ediv_of_nonneg i (by omega),Int.fmod_eq_emod_of_nonneg i (by omega)]
 have n:H s.heap.objs.size=none:=I.hok.fresh (zx _)
 refine ⟨.ref s.heap.objs.size,_,?_,rfl,q _ n⟩
 refine I.laid (λb o e=>zu _ e) (zx _) ⟨by simp only [zH,List.length_nil];rw [xn];decide,[.int (i / j) s.toks,.int (i % j) (s.toks+1)],.cons ⟨_,rfl⟩ (.cons ⟨_,rfl⟩ .nil),?_⟩
 exact ⟨_,zD s.heap rfl,rfl,0,rfl⟩
end
structure CQ (h:Heap) (x dx C:Addr) (mA:Str->Option Value):Prop where
 obj:h.get? x=some (PySem.W.instObj C dx)
 ns:h.Ns1 dx mA
 ne:dx≠x
theorem Hx {h:Heap} (n:h.Ns1 dx mA):∃D,h.get? dx=some D/\∀name,PySem.W.lookIn name D=some (mA name):=by
 obtain ⟨o,es,Z,J,hd,U,_,O⟩:=n
 refine ⟨o,J,λname=>?_⟩
 have e:=O name
 unfold nsFind findBy at e
 rw [<-Array.find?_toList] at e
 unfold PySem.W.lookIn
 rw [hd]
 dsimp only
 split
 ·rename_i y q
  rw [q] at e
  exact yn some e
 ·rename_i q
  rw [q] at e
  have a:es.toList.any (·.refKey)=false:=by
   rw [List.any_eq_false]
   intro y I
   obtain ⟨z,t,B⟩:=U y (Array.mem_toList_iff.mp I)
   simp [DictEntry.refKey,B]
  have Y:¬es.toList.any (·.refKey)=true:=by rw [a];exact ym
  rw [zi Y]
  exact yn some e
theorem CQ.look (I:CQ h x dx C mA):∃n,PySem.W.InstAt h x (PySem.W.instObj C dx) C (some n)/\∀name,PySem.W.lookIn name n=some (mA name):=
 let ⟨n,ho,hl⟩:=Hx I.ns
 ⟨n,⟨I.obj,rfl,rfl,ho⟩,hl⟩
section
variable {prog:Program} {w:World} {A:Around} {E:Value->Shared->Prop} {s:Shared} {K:PySem.W.Frag} {x dx C f:Addr} {mA:Str->Option Value} {name:Str} {v:Value}
theorem get_map (X:K.In s.heap) (I:CQ s.heap x dx C mA) (O:PySem.W.plainGet K C name=true) (D:PySem.W.hasDictIn K C=true)
  (U:PySem.W.findIn K (.ref C) name=some none) (z:mA name=some v) (n:PySem.W.handedIn v=true) (h:Q v { s with toks:=s.toks+1 }) :
  wpAny (model prog w) A (getAttr (.ref x) name expr) Q E s:=by
 obtain ⟨Y,J,B⟩:=I.look
 exact PySem.W.get_value X J (PySem.W.plainGet_of O).1 (PySem.W.findObj_own D U rfl (by rw [B,z])) n h
theorem JC (X:K.In s.heap) (I:CQ s.heap x dx C mA) (n:PySem.W.plainGet K C name=true)
  (hf:PySem.W.findIn K (.ref C) name=some (some (.ref f))) (D:PySem.W.isFn K (.ref f)=true) (B:mA name=none) (h:Q (.ref f,[.ref x]) s) :
  wpAny (model prog w) A (getMethod (.ref x) name pl) Q E s:=by
 obtain ⟨z,J,O⟩:=I.look
 exact PySem.W.method_fn X J (PySem.W.plainGet_of n).1 (PySem.W.plainGet_of n).2 hf (beq_iff_eq.mp D) (by show (PySem.W.lookIn name z).map (·.isSome)=some false;rw [O,B];rfl) h
theorem Qu {ns:List Str} (X:K.In s.heap) (I:CQ s.heap x dx C mA)
  (hs:PySem.W.findIn K (.ref C) "__setattr__"=some (some (.builtin "object.__setattr__"))) (hp:PySem.W.plainOver K C=true) (Z:PySem.W.takerIn K C name=some none) (hh:PySem.W.hasDictIn K C=true)
  (Y:PySem.Within mA ns) (hsz:ns.length<=sizeLine)
  (h:∀h',CQ h' x dx C (λy=>if y=name then some v else mA y)->Heap.SameBut dx s.heap h'->Q () { s with heap:=h',toks:=s.toks+2 }) :
  wpAny (model prog w) A (setAttr (.ref x) name v) Q E s:=by
 obtain ⟨od,J,hl⟩:=I.look
 refine PySem.W.set_plain X J hs (PySem.W.osa_open (s:={ s with toks:=s.toks+1 }) (r:=none) X J hp Z λb=>?_)
 obtain ⟨cd,hc,hd'⟩:=PySem.W.any_some hh
 have U:s.heap.get? x=some ⟨.ref C,some dx,.plain,#[]⟩:=I.obj
 refine zh (zC (zh (zh (wpAny_loadPart U (zh (PySem.W.Looks.here (s:={ s with toks:=s.toks+1 }) (PySem.W.looks_clsIn X hc) ?_))))))
 rw [hd']
 refine zC (a:=some dx) (zh (zC (zh ?_)))
 refine wpAny_nsSet1 (s:={ s with toks:=s.toks+1 }) I.ns λh' z n=>?_
 obtain ⟨oD,esD,epD,B,D,O⟩:=z.count (PySem.Within.cons name v Y)
 refine zh (wpAny_lookBehind B (by rw [D];exact pastItsLine_dict (zQ O (by rw [zH];omega))) ?_)
 exact zC (h _ ⟨(n.2 _ (Ne.symm I.ne)).trans I.obj,z,I.ne⟩ n)
theorem JD (X:K.In s.heap) (n:PySem.W.makesIn K C=true)
  (hi:PySem.W.findIn K (.ref C) "__init__"=some (some (.ref f))) (hf:PySem.W.typeIn K (.ref f)=some (.type "function"))
  (h:codeAny (model prog w) (A.under (.builtin "type.__call__" ⟨.ref C::vs,kw⟩)) (.call (.ref f) ⟨.ref (s.heap.objs.size+1)::vs,kw⟩) (PySem.W.InitBack (s.heap.objs.size+1) R)
   { s with heap:=(s.heap.push PySem.W.emptyDict).push (PySem.W.instObj C s.heap.objs.size) }) :
  codeAny (model prog w) A (.call (.ref C) ⟨vs,kw⟩) R s:=by
 obtain ⟨z,g,d,t,os⟩:=s
 exact PySem.W.make_core (PySem.W.makes_of X n) (PySem.W.looks_findIn X hi) (λself=>PySem.W.bind_fn X self hf) (.inl rfl) h
end
def iW (f:Str) (v:V):List (Str × V)->List (Str × V)
 | []=>[(f,v)]
 | (g,x)::r=>if g=f then (g,v)::r else (g,x)::iW f v r
theorem pW (f g:Str) (v:V):∀fs:List (Str × V),(iW f v fs).lookup g=if g=f then some v else fs.lookup g
 | []=>by
  show List.lookup g [(f,v)]=_
  by_cases h:g=f
  ·have n:(g == f)=true:=beq_iff_eq.mpr h
   simp only [List.lookup,n,zm h]
  ·have n:(g == f)=false:=yt.mpr h
   simp only [List.lookup,n,zi h]
 | (k,x)::r=>by
  have B:=pW f g v r
  rw [show iW f v ((k,x)::r)=(if k=f then (k,v)::r else (k,x)::iW f v r) from rfl]
  by_cases z:k=f
  ·rw [zm z]
   by_cases h:g=k
   ·have n:(g == k)=true:=beq_iff_eq.mpr h
    simp only [List.lookup,n,zm (h.trans z)]
   ·have n:(g == k)=false:=yt.mpr h
    simp only [List.lookup,n,zi (λe:g=f=>h (e.trans z.symm))]
  ·rw [zi z]
   by_cases h:g=k
   ·have n:(g == k)=true:=beq_iff_eq.mpr h
    simp only [List.lookup,n,zi (λe:g=f=>z (h.symm.trans e))]
   ·have n:(g == k)=false:=yt.mpr h
    simp only [List.lookup,n]
    exact B
theorem oY (f:Str) (v:V):∀fs:List (Str × V),f∈(iW f v fs).map (·.1)/\∀g,g∈fs.map (·.1)->g∈(iW f v fs).map (·.1)
 | []=>⟨by simp [iW],λg h=>by simp at h⟩
 | (k,x)::r=>by
  obtain ⟨B,z⟩:=oY f v r
  rw [show iW f v ((k,x)::r)=(if k=f then (k,v)::r else (k,x)::iW f v r) from rfl]
  by_cases n:k=f
  ·rw [zm n]
   subst n
   exact ⟨by simp,λg h=>by simpa using h⟩
  ·rw [zi n]
   refine ⟨?_,λg h=>?_⟩
   ·rw [yu]
    exact zp _ B
   ·rw [yu] at h ⊢
    rcases zr.mp h with e|e
    ·exact zr.mpr (.inl e)
    ·exact zp _ (z g e)
theorem pX (f:Str) (v:V):∀fs:List (Str × V),(iW f v fs).length<=fs.length+1
 | []=>by simp [iW]
 | (k,x)::r=>by
  have z:=pX f v r
  rw [show iW f v ((k,x)::r)=(if k=f then (k,v)::r else (k,x)::iW f v r) from rfl]
  by_cases n:k=f
  ·rw [zm n,zH,zH];omega
  ·rw [zi n,zH,zH];omega
theorem oX.some_of (r:oX (some v) o):∃u,o=some u/\RelV v u:=by
 cases o with
 | none=>exact (show False from r).elim
 | some u=>exact ⟨u,rfl,r⟩
theorem oX.none_of (r:oX none o):o=none:=by
 cases o with
 | none=>rfl
 | some u=>exact (show False from r).elim
theorem Hy (r:RelV v u):PySem.W.handedIn u=true:=by
 cases v with
 | non=>cases (show u=Value.none from r);rfl
 | bl b=>cases (show u=Value.bool b from r);rfl
 | int i=>obtain ⟨t,e⟩:=(show ∃t,u=Value.int i t from r);cases e;rfl
 | str x=>obtain ⟨t,e⟩:=(show ∃t,u=Value.str x t from r);cases e;rfl
 | ref a=>cases (show u=Value.ref a from r);rfl
 | ty n=>cases (show u=Value.type n from r);rfl
section
variable {P:Program} {w:World} {H H':Hp} {h h':Heap} {a C dx:Addr} {fs fs':List (Str × V)}
theorem qH (hok:jO P w H h) (e:H a=some (.ins C dx fs)):∃mA,CQ h a dx C mA/\(∀f,oX (fs.lookup f) (mA f))/\PySem.Within mA (fs.map (·.1))/\fs.length<=1000/\H dx=some (.own a):=by
 obtain ⟨d,z,ne,B,mA,n,r,q⟩:=(show bN P w H h a (.ins C dx fs) from hok a _ e)
 exact ⟨mA,⟨B,n,ne⟩,r,q,z,d⟩
end
structure vh (K:PySem.W.Frag) (C:Addr):Prop where
 pg:PySem.W.plainGet K C Str.empty=true
 hd:PySem.W.hasDictIn K C=true
 po:PySem.W.plainOver K C=true
 sa:PySem.W.findIn K (.ref C) "__setattr__"=some (some (.builtin "object.__setattr__"))
theorem vh.get {K:PySem.W.Frag} {C:Addr} (c:vh K C) (f:Str):PySem.W.plainGet K C f=true:=c.pg
def iK (K:PySem.W.Frag) (C:Addr) (f:Str):Prop:=PySem.W.findIn K (.ref C) f=some none
theorem iK.taker {K:PySem.W.Frag} {C:Addr} {f:Str} (n:iK K C f):PySem.W.takerIn K C f=some none:=by
 unfold PySem.W.takerIn
 rw [show PySem.W.findIn K (.ref C) f=some none from n]
 rfl
structure Meth (K:PySem.W.Frag) (C:Addr) (m:Str) (f:Addr):Prop where
 at_:PySem.W.findIn K (.ref C) m=some (some (.ref f))
 fn:PySem.W.isFn K (.ref f)=true
 kp:PySem.W.keepIn K (.ref f)=true
section
variable {X:Cx} {pins:List (Addr × Obj)} {σ:St} {H:Hp} {s:Shared} {a C dx:Addr} {fs:List (Str × V)} {f:Str} {v:V} {A:Around} {E:Value->Shared->Prop}
theorem CT {b:Bool} {Q:Value->Shared->Prop} (I:Inv X pins σ H s) (e:H a=some (.ins C dx fs)) (c:vh X.K C) (n:iK X.K C f) (l:fs.lookup f=some v)
  (h:∀u s',Inv X pins σ H s'->RelV v u->Q u s'):wpAny (model X.prog X.w) A (getAttr (.ref a) f b) Q E s:=by
 obtain ⟨mA,O,r,_,_,_⟩:=qH I.hok e
 obtain ⟨u,B,z⟩:=oX.some_of (v:=v) (o:=mA f) (by rw [<-l];exact r f)
 exact get_map I.q_ O (c.get f) c.hd n B (Hy z) (h u _ (I.tok _) z)
theorem lZ {m:Str} (I:Inv X pins σ H s) (e:H a=some (.ins C dx fs)) (c:vh X.K C) (k:Meth X.K C m g) (l:fs.lookup m=none)
  (h:Q (.ref g,[.ref a]) s):wpAny (model X.prog X.w) A (getMethod (.ref a) m pl) Q E s:=by
 obtain ⟨mA,O,r,_,_,_⟩:=qH I.hok e
 have n:mA m=none:=oX.none_of (by rw [<-l];exact r m)
 exact JC I.q_ O (c.get m) k.at_ k.fn n h
theorem CV (I:Inv X pins σ H s) (e:H a=some (.ins C dx fs)) (c:vh X.K C) (n:iK X.K C f) (hl:fs.length<1000) (Y:RelV y u)
  (h:∀s',Inv X pins σ (upd H a (.ins C dx (iW f y fs))) s'->Q () s'):wpAny (model X.prog X.w) A (setAttr (.ref a) f u) Q E s:=by
 obtain ⟨mA,O,r,D,_,J⟩:=qH I.hok e
 have Z:(fs.map (·.1)).length<=sizeLine:=by rw [zd,xn];omega
 refine Qu I.q_ O c.sa c.po n.taker c.hd D Z λh' B U=>h _ ?_
 have hd:∃o,h'.get? dx=some o:=let ⟨o,_,_,e',_⟩:=B.ns;⟨o,e'⟩
 refine I.write (x:=a) (e:=dx) (by rw [e];exact True.intro) (.inr J) (λb q hb z=>(U.2 b hb).trans z) hd ?_
 refine ⟨by rw [az O.ne];exact J,?_,O.ne,B.obj,_,B.ns,λg=>?_,λg hg=>?_⟩
 ·have:=pX f y fs;omega
 ·show oX ((iW f y fs).lookup g) (if g=f then some u else mA g)
  rw [pW]
  by_cases q:g=f
  ·rw [zm q,zm q];exact Y
  ·rw [zi q,zi q];exact r g
 ·by_cases q:g=f
  ·rw [q];exact (oY f y fs).1
  ·refine (oY f y fs).2 g (D g λz=>hg ?_)
   show (if g=f then some u else mA g)=none
   rw [zi q];exact z
theorem Inv.made (I:Inv X pins σ H s):Inv X pins σ (upd (upd H s.heap.objs.size (.own (s.heap.objs.size+1))) (s.heap.objs.size+1) (.ins C s.heap.objs.size []))
  { s with heap:=(s.heap.push PySem.W.emptyDict).push (PySem.W.instObj C s.heap.objs.size) }:=by
 have e1:(s.heap.push PySem.W.emptyDict).get? s.heap.objs.size=some PySem.W.emptyDict:=zD s.heap rfl
 have e2:((s.heap.push PySem.W.emptyDict).push (PySem.W.instObj C s.heap.objs.size)).get? (s.heap.objs.size+1)=some (PySem.W.instObj C s.heap.objs.size):=by
  have:=zD (s.heap.push PySem.W.emptyDict) (o:=PySem.W.instObj C s.heap.objs.size) rfl
  rwa [xo] at this
 have B:(s.heap.push PySem.W.emptyDict).Ns s.heap.objs.size (λ_=>none):=⟨PySem.W.emptyDict,#[],_,e1,rfl,(λe z=>absurd z (by simp)),λ_=>rfl⟩
 have D:=I.laid (a:=s.heap.objs.size) (o:=.own (s.heap.objs.size+1)) (h':=s.heap.push PySem.W.emptyDict) (t':=s.toks) (λb u q=>zu _ q) (zx _) ⟨_,e1⟩
 refine D.laid (a:=s.heap.objs.size+1) (o:=.ins C s.heap.objs.size []) (t':=s.toks) (λb u q=>zu _ q) (Nat.le_of_eq (xo _ _)) ?_
 have ne:s.heap.objs.size≠s.heap.objs.size+1:=zK (Nat.lt_succ_self _)
 refine ⟨by rw [az ne,aJ],ye _,ne,e2,λ_=>none,(Heap.Ns1.of_empty B).at λo q=>zu _ q,λ_=>True.intro,λy n=>absurd rfl n⟩
theorem Qv {prog:Program} {w:World} {env:Env} {e:Expr} {f:Str} {pos:Pos} {s:Shared} {Q:Value->Shared->Prop} (n:attributeBase e f env (eval e env)=eval e env)
  (h:wpAny (model prog w) A (eval e env) (λo s₁=>wpAny (model prog w) A (getAttr o f true) Q E s₁) E s):wpAny (model prog w) A (eval (.Attribute e f pos) env) Q E s:=
 Attribute_any_ h (by rw [arm_eval_Attribute,n])
end
def ac9 (K:PySem.W.Frag) (n:TE) (f:Str):TE:=λσ H Q=>n σ H λx H1=>∃a C dx fs v,x=.ref a/\H1 a=some (.ins C dx fs)/\vh K C/\iK K C f/\fs.lookup f=some v/\Q v H1
def ada (K:PySem.W.Frag) (z n:TE) (f:Str):TS:=λD σ H=>n σ H λy H1=>z σ H1 λx H2=>∃a C dx fs,x=.ref a/\H2 a=some (.ins C dx fs)/\vh K C/\iK K C f/\fs.length<1000 /\
 D.nx σ (upd H2 a (.ins C dx (iW f y fs)))
section
variable {X:Cx} {o e value:Expr} {f:Str} {pos pos' tpos:Pos} {ta tv:TE}
theorem VP (he:PE X e ta) (J:attributeBase e f X.env (eval e X.env)=eval e X.env):PE X (.Attribute e f pos) (ac9 X.K ta f):=by
 intro pins s σ H Q I h
 refine Qv J (bu (he pins s σ H _ I h) λu s1 z=>?_)
 obtain ⟨x,H1,Y,B,a,C,dx,fs,v,ex,O,c,n,l,q⟩:=z
 subst ex
 obtain rfl:u=Value.ref a:=B
 exact CT Y O c n l λZ s2 U D=>⟨v,H1,U,D,q⟩
theorem VR (ha:PE X o ta) (Y:PE X value tv) (Z:swapsWith value (some (.Attribute o f pos')) pos.line X.env=pure false):PS X (.Assign [.Attribute o f pos'] value pos) (ada X.K ta tv f):=by
 intro pins s σ H D I h
 refine plainObj_wpAny_Assign_Attribute (bu (Y pins s σ H _ I h) λu B ⟨y,H1,I1,J,q⟩=>bu (ha pins B σ H1 _ I1 q) λU s2 z=>?_) Z
 obtain ⟨x,H2,I2,O,a,C,dx,fs,ex,ea,c,n,l,q2⟩:=z
 subst ex
 obtain rfl:U=Value.ref a:=O
 exact CV I2 ea c n l J λs3 I3=>⟨σ,_,I3,q2⟩
theorem Tz {m : Str} {n : Pos} (he : PE X e te) (I : Inv X pins σ H s)
    (h : te σ H λx H1 => ∃ a C dx fs g, x = .ref a ∧ H1 a = some (.ins C dx fs) ∧ vh X.K C ∧ Meth X.K C m g ∧ fs.lookup m = none ∧
      ∀ z, Inv X pins σ H1 z → wpAny (model X.prog X.w) X.A (callWith pos (.ref g) [.ref a] (backTo pos (starEach args X.env)) (backToKw pos (keywordEach [] X.env))) Q X.xe z)
    (O : eval (.Call (.Attribute e m n) args [] pos) X.env = (do
      let ov ← eval e X.env
      standAt n.atName
      let (f, first) ← holding [ov] (getMethod ov m pl)
      callWith pos f first (backTo pos (starEach args X.env)) (backToKw pos (keywordEach [] X.env)))) :
    wpAny (model X.prog X.w) X.A (eval (.Call (.Attribute e m n) args [] pos) X.env) Q X.xe s := by
  refine PySem.W.methodCall_KW (pl := pl) (bu (he pins s σ H _ I h) λu z D=>?_) O
  obtain ⟨x, H1, B, J, a, C, dx, fs, g, ex, U, c, k, l, q⟩:=D
  subst ex
  obtain rfl : u = Value.ref a := J
  exact lZ B U c k l (q z B)
end
section
variable {X:Cx} {pins:List (Addr × Obj)} {σ:St} {H:Hp} {s:Shared} {A:Around} {E:Value->Shared->Prop} {Q:Value->Shared->Prop} {c:Value} {b:Bool}
inductive uc (K:PySem.W.Frag) (H:Hp):V->Value->Prop where
 | non:uc K H .non (.type "NoneType")
 | bl (x:Bool):uc K H (.bl x) (.type "bool")
 | int (i:Int):uc K H (.int i) (.type "int")
 | str (x:Str):uc K H (.str x) (.type "str")
 | lst {a:Addr} {xs:List V} (e:H a=some (.lst xs)):uc K H (.ref a) (.type "list")
 | Cw {a:Addr} {o:Obj} {xs:List V} (e:H a=some (.Cw o (.lst xs))):uc K H (.ref a) (.type "list")
 | tup {a:Addr} {xs:List V} (e:H a=some (.tup xs)):uc K H (.ref a) (.type "tuple")
 | dK {a:Addr} {kvs:List (Key × V)} (e:H a=some (.dK kvs)):uc K H (.ref a) (.type "dict")
 | ins {a C dx:Addr} {fs:List (Str × V)} (e:H a=some (.ins C dx fs)) (cl:vh K C) (ha:PySem.W.findIn K (.ref C) "__class__"=some (some (.builtin "object.__class__")))
   (hn:PySem.W.specialIn K (.builtin "object.__class__") "__get__"=some (some (.builtin "getset_descriptor.__get__"))) (htk:PySem.W.takesIn K (.builtin "object.__class__")=some true)
   (hm:PySem.W.mroIn K C (.type "object")=some true):uc K H (.ref a) (.ref C)
end
structure bR (k:Nat) (A:Around):Prop where
 hd:A.handled=none
 dp:A.depth+3 * k+5<recursionLimit
 un:A.units+16 * k+200<cLine
 gd:A.guards=some []
theorem bR.mono {k:Nat} (r:bR k A) (h:j<=k):bR j A:=⟨r.hd,by have:=r.dp;omega,by have:=r.un;omega,r.gd⟩
theorem bR.deeper {k:Nat} {A:Around} (r:bR (k+1) A) (env:Env):bR k (A.deeper env):=
 ⟨r.hd,by have:=r.dp;show A.depth+1+3 * k+5<_;omega,by have:=r.un;show A.units+3+16 * k+200<_;omega,r.gd⟩
theorem CW {A:Around}:(A.under (.builtin "type.__call__" ⟨.ref C::us,kw⟩)).depth=A.depth+1:=by
 first|rfl|simp [Around.under,Code.weight,Code.isCreation,Code.isGuard,Code.isCaller,Code.frames,Code.isFrame,guardIds]
theorem CZ {A:Around}:(A.under (.builtin "type.__call__" ⟨.ref C::us,kw⟩)).units=A.units+1:=by
 first|rfl|simp [Around.under,Code.cUnits,Code.frames,Code.isFrame]
theorem y_ {A:Around}:(A.under (.builtin "type.__call__" ⟨.ref C::us,kw⟩)).guards=A.guards:=by
 cases h:A.guards<;>first|(show _=_;simp [Around.under,h,pushGuards,Code.guards,Code.isGuard,guardIds])|rfl
theorem bR.make {k:Nat} {A:Around} (r:bR (k+1) A) (C:Addr) (us:List Value) (n:List (Str × Value)):bR k (A.under (.builtin "type.__call__" ⟨.ref C::us,n⟩)):=
 ⟨r.hd,by have:=r.dp;rw [CW];omega,by have:=r.un;rw [CZ];omega,by rw [y_];exact r.gd⟩
theorem bR.depth {k:Nat} {A:Around} (r:bR k A):A.depth<recursionLimit:=by have:=r.dp;omega
theorem bR.units {k:Nat} {A:Around} (r:bR k A):A.units+64<cLine:=by have:=r.un;omega
def ZM:TA:=λ_ H Q=>Q [] H
def ZP (z:TE) (n:TA):TA:=λσ H Q=>z σ H λx H1=>n σ H1 λxs H2=>Q (x::xs) H2
section
variable {X:Cx} {e:Expr} {es:List Expr} {te:TE} {t:TA} {pos:Pos}
theorem JF:PA X [] ZM:=λ_ _ _ _ H Q I h=>Calls.spliced_nil ⟨[],H,I,.nil,h⟩
theorem vm (U:PE X e te) (O:PA X es t) (J:starEach (e::es) X.env=(false,eval e X.env)::starEach es X.env:=by rfl):PA X (e::es) (ZP te t):=by
 intro pos pins s σ H Q I h
 rw [J]
 show wpAny _ _ (spliced ((false,eval e X.env)::backTo pos (starEach es X.env))) _ _ s
 refine Calls.spliced_cons (bu (U pins s σ H _ I h) λu z n=>?_)
 obtain ⟨x,H1,Z,D,q1⟩:=n
 exact bu (O pos pins z σ H1 _ Z q1) λus s2 n=>by obtain ⟨xs,H2,Y,B,q2⟩:=n;exact ⟨x::xs,H2,Y,.cons D B,q2⟩
def adb (t:TA):TE:=λσ H Q=>t σ H λxs H1=>xs.length<=sizeLine/\∀p,H1 p=none->Q (.ref p) (upd H1 p (.tup xs))
def ade (t:TA):TE:=λσ H Q=>t σ H λxs H1=>xs.length<=sizeLine/\∀p,H1 p=none->Q (.ref p) (upd H1 p (.lst xs))
theorem V0 {x1} (h:PA X es t):PE X (.Tuple es x1 pos) (adb t):=by
 intro pins s σ H Q I J
 refine wpAny_Tuple_spliced (bu (h pos pins s σ H _ I J) λD n ⟨xs,H1,B,r,z,q⟩=>⟨by rw [<-r.length];exact z,?_⟩)
 have hf:H1 n.heap.objs.size=none:=B.hok.fresh (zx _)
 refine ⟨.ref n.heap.objs.size,upd H1 n.heap.objs.size (.tup xs),B.laid (t':=n.toks) (λb u e=>zu _ e) (zx _) ?_,rfl,q _ hf⟩
 exact ⟨z,D,r,⟨_,zD _ rfl,rfl,_,rfl⟩⟩
theorem JG (h:PA X es t):PE X (.List es pos) (ade t):=by
 intro pins s σ H Q I J
 refine wpAny_List_spliced (bu (h pos pins s σ H _ I J) λD n ⟨xs,H1,B,r,z,q⟩=>⟨by rw [<-r.length];exact z,?_⟩)
 have hf:H1 n.heap.objs.size=none:=B.hok.fresh (zx _)
 refine ⟨.ref n.heap.objs.size,upd H1 n.heap.objs.size (.lst xs),B.laid (t':=n.toks) (λb u e=>zu _ e) (zx _) ?_,rfl,q _ hf⟩
 exact ⟨z,D,0,r,zD _ rfl⟩
end
abbrev Sp:=List V->Hp->VK->XK->Prop
abbrev Hz:=List Env->Hp->Shared->XK->Value->Shared->Prop
structure C_ (P:Program) (w:World) (K:PySem.W.Frag) (mg:Str->Option Value) (base:Heap) (A:Around) (outer:List Env) (s:Shared) (H:Hp):Prop where
 frames:A.frames=some outer
 mod:Mod K mg base
 bs:∀b o,base.get? b=some o->s.heap.get? b=some o/\H b=none
 Hi:base.objs.size<=s.heap.objs.size
 jP:s.heap.FunFrames base outer
 Ji:∀b∈frs outer,H b=none
 hok:jO P w H s.heap
 bare:AllBare s.gens
def CE (outer:List Env) (P:Program) (w:World) (H:Hp) (s:Shared) (Q:VK) (u:Value) (s':Shared):Prop:=
 ∃v H',s'.os=s.os/\AllBare s'.gens/\Un (frs outer) [] H H' s.heap s'.heap/\jO P w H' s'.heap/\RelV v u/\Q v H'
def CR (CX:Hz) (outer:List Env) (P:Program) (w:World) (H:Hp) (s:Shared) (Q:VK) (E:XK) (r:Result) (s':Shared):Prop:=
 match r with
 | .ok (.ret u)=>CE outer P w H s Q u s'
 | .ok _=>False
 | .error e=>CX outer H s E e s'
structure bY (P:Program) (w:World) (K:PySem.W.Frag) (mg:Str->Option Value) (base:Heap) (CX:Hz) (k:Nat) (f:Addr) (fd:FuncData) (ps:List Str) (sp:Sp):Prop where
 len:∀vs H Q E,sp vs H Q E->vs.length=ps.length
 run:∀(A:Around) (outer:List Env) (s:Shared) (H:Hp) (args:Args) (us:List Value) (vs:List V) (Q:VK) (E:XK),bR k A->C_ P w K mg base A outer s H->BindsTo s fd args (ps.zip us)->Vals vs us->sp vs H Q E->
  codeAny (model P w) A (.call (.ref f) args) (CR CX outer P w H s Q E) s
theorem bY.imp {P:Program} {w:World} {K:PySem.W.Frag} {mg:Str->Option Value} {base:Heap} {CX:Hz} {k:Nat} {f:Addr} {fd:FuncData} {ps:List Str} {sp sp':Sp} (F:bY P w K mg base CX k f fd ps sp)
  (h:∀vs H Q E,sp' vs H Q E->sp vs H Q E):bY P w K mg base CX k f fd ps sp':=
 ⟨λvs H Q E q=>F.len vs H Q E (h _ _ _ _ q),λA outer s H args n vs Q E D I J z B=>F.run A outer s H args n vs Q E D I J z (h _ _ _ _ B)⟩
theorem C_.make {P:Program} {w:World} {K:PySem.W.Frag} {mg:Str->Option Value} {base:Heap} {A:Around} {outer:List Env} {s:Shared} {H:Hp} (e:C_ P w K mg base A outer s H) (C:Addr) (us:List Value) (n:List (Str × Value)) :
  C_ P w K mg base (A.under (.builtin "type.__call__" ⟨.ref C::us,n⟩)) outer s H:=⟨by first|exact e.frames|(simpa [Around.under,Code.envs,Code.isFrame,pushEnvs] using e.frames),e.mod,e.bs,e.Hi,e.jP,e.Ji,e.hok,e.bare⟩
section
variable {X:Cx} {pins:List (Addr × Obj)} {σ:St} {H:Hp} {s s':Shared}
theorem Inv.env0 (I:Inv X pins σ H s):C_ X.prog X.w X.K X.mg X.base X.A X.stack s H:=
 ⟨I.ok.frames,I.ok.mod,I.bs,zQ I.ok.Hi I.sz,I.stack,I.qz,I.hok,I.bare⟩
theorem Inv.after (I:Inv X pins σ H s) (h:CE X.stack X.prog X.w H s Q u s'):EP X pins σ Q u s':=by
 obtain ⟨v,H',os,bare,un,hok,r,q⟩:=h
 obtain ⟨B,g,d,t,n⟩:=s'
 obtain rfl:n=s.os:=os
 exact ⟨v,H',I.call (h':=B) (g':=g) (d':=d) (t':=t) (ch:=[]) un hok bare (λb z=>absurd z (by simp)),r,q⟩
end
def TF (sp:Sp) (n:List V) (E:XK) (t:TA):TE:=λσ H Q=>t σ H λvs H1=>sp (vs++n) H1 Q E
def ZQ (C:Addr) (m:Str) (sp:Sp) (n:List V) (E:XK) (z:TE) (t:TA):TE:=λσ H Q=>z σ H λx H1=>∃a dx fs,x=.ref a/\H1 a=some (.ins C dx fs)/\fs.lookup m=none /\
 t σ H1 λvs H2=>sp (x::(vs++n)) H2 Q E
def ZR (C:Addr) (sp:Sp) (n:List V) (E:XK) (t:TA):TE:=λσ H Q=>t σ H λvs H1=>∀x dx,H1 x=none->H1 dx=none->dx≠x->
 sp (.ref x::(vs++n)) (upd (upd H1 dx (.own x)) x (.ins C dx [])) (λv H2=>v=.non/\Q (.ref x) H2) E
def Binds (K:PySem.W.Frag) (fd:FuncData) (ps:List Str) (ds:List Value):Prop:=
 ∀(s:Shared) (n:List Value),K.In s.heap->(n++ds).length=ps.length->BindsTo s fd ⟨n,[]⟩ (ps.zip (n++ds))
theorem Binds.all {K:PySem.W.Frag} {fd:FuncData} {ps:List Str} (h:∀n:List Value,n.length=ps.length->bindArgs fd ⟨n,[]⟩=pure (ps.zip n)):Binds K fd ps []:=λs n _ z=>by
 rw [zW] at z ⊢
 exact .of_eq (h n z)
def Passes (CX:Hz) (X:Cx) (E:XK):Prop:=∀(pins:List (Addr × Obj)) (σ:St) (H:Hp) (s:Shared) (e:Value) (s':Shared),Inv X pins σ H s->CX X.stack H s E e s'->X.xe e s'
section
variable {X:Cx} {CX:Hz} {k:Nat} {f C:Addr} {fd:FuncData} {ps:List Str} {sp:Sp} {HB:List V} {ds:List Value} {E:XK} {x m:Str} {p pos apos:Pos} {e o:Expr} {es:List Expr} {ta:TE} {t:TA}
theorem Dc (F:bY X.prog X.w X.K X.mg X.base CX k f fd ps sp) (D:bR k X.A) (O:Binds X.K fd ps ds) (hd:Vals HB ds) (B:Passes CX X E)
  (I:Inv X pins σ H s) (r:Vals vs us) (h:sp (vs++HB) H Q E):wpAny (model X.prog X.w) X.A (call (.ref f) us) (EP X pins σ Q) X.xe s:=by
 have z:Vals (vs++HB) (us++ds):=r.append hd
 have J:(us++ds).length=ps.length:=by rw [<-z.length];exact F.len _ _ _ _ h
 refine wpAny_call (codeAny_mono (F.run X.A X.stack s H ⟨us,[]⟩ (us++ds) (vs++HB) Q E D I.env0 (O s us I.q_ J) z h) λr s' n=>?_)
 cases r with
 | error e=>exact B pins σ H s e s' I n
 | ok fl=>
  cases fl with
  | ret u=>exact I.after n
  | next=>exact False.elim n
  | brk=>exact False.elim n
  | cont=>exact False.elim n
theorem Qw (F:bY X.prog X.w X.K X.mg X.base CX k f fd ps sp) (D:bR k X.A) (U:Gl X x) (J:X.mg x=some (.ref f)) (O:PySem.W.keepIn X.K (.ref f)=true) (Y:Binds X.K fd ps ds) (hd:Vals HB ds) (B:Passes CX X E)
  (Z:PA X (e::es) t) (n:(x == ("__debug__":Str))=false:=by decide) (he:starEach (e::es) X.env=(false,eval e X.env)::starEach es X.env:=by rfl) (hpl:(backTo pos (starEach es X.env)).any (·.1)=false:=by rfl) :
  PE X (.Call (.Name x p) (e::es) [] pos) (TF sp HB E t):=by
 intro pins s σ H Q I h
 refine yV (jo I U J ?_ n)
 refine xh (h₀:=X.base) I.ok.mod.Qh O (bu (Z pos pins s σ H _ I h) λus s1 ⟨vs,H1,z,r,q⟩=>⟨z.q_,?_⟩) he hpl
 exact Dc F D Y hd B z r q
theorem Fo (he : PE X o ta) (c : vh X.K C) (z : Meth X.K C m f) (F : bY X.prog X.w X.K X.mg X.base CX k f fd ps sp) (hr : bR k X.A) (hb : Binds X.K fd ps ds) (hd : Vals HB ds) (Y : Passes CX X E) (ha : PA X (e :: es) t)
    (n : starEach (e :: es) X.env = (false, eval e X.env) :: starEach es X.env := by rfl) (hpl : (backTo pos (starEach es X.env)).any (·.1) = false := by rfl)
    (Z : eval (.Call (.Attribute o m apos) (e :: es) [] pos) X.env = (do
      let ov ← eval o X.env
      standAt apos.atName
      let (f, first) ← holding [ov] (getMethod ov m pl)
      callWith pos f first (backTo pos (starEach (e :: es) X.env)) (backToKw pos (keywordEach [] X.env))) := by rfl) :
    PE X (.Call (.Attribute o m apos) (e :: es) [] pos) (ZQ C m sp HB E ta t) := by
  intro pins s σ H Q I h
  refine PySem.W.methodCall_KW (pl := pl) (bu (he pins s σ H _ I h) λu O J=>?_) Z
  obtain ⟨x, H1, D, U, a, dx, fs, ex, ea, l, q⟩:=J
  subst ex
  obtain rfl : u = Value.ref a := U
  refine lZ D ea c z l ?_
  refine xh (first := [.ref a]) (h₀ := X.base) I.ok.mod.Qh z.kp (bu (ha pos pins O σ H1 _ D q) λus s2 ⟨vs, H2, B, r, q2⟩ => ⟨B.q_, ?_⟩) n hpl
  exact Dc (us := .ref a :: us) (vs := .ref a :: vs) F hr hb hd Y B (.cons rfl r) q2
structure Mk (K:PySem.W.Frag) (C f:Addr):Prop where
 makes:PySem.W.makesIn K C=true
 init:PySem.W.findIn K (.ref C) "__init__"=some (some (.ref f))
 fn:PySem.W.isFn K (.ref f)=true
 kp:PySem.W.keepIn K (.ref C)=true
theorem JH {B:St} (M:Mk X.K C f) (F:bY X.prog X.w X.K X.mg X.base CX k f fd ps sp) (Z:bR (k+1) X.A) (hb:Binds X.K fd ps ds) (hd:Vals HB ds)
  (Y:Passes CX X E) (I:Inv X pins B H s) (r:Vals vs us)
  (h:∀x dx,H x=none->H dx=none->dx≠x->sp (.ref x::(vs++HB)) (upd (upd H dx (.own x)) x (.ins C dx [])) (λv H2=>v=.non/\Q (.ref x) H2) E) :
  wpAny (model X.prog X.w) X.A (call (.ref C) us) (EP X pins B Q) X.xe s:=by
 have J:=h (s.heap.objs.size+1) s.heap.objs.size (I.hok.fresh (Nat.le_succ _)) (I.hok.fresh (zx _)) (zK (Nat.lt_succ_self _))
 have z:=Inv.made (C:=C) I
 have D:Vals (V.ref (s.heap.objs.size+1)::(vs++HB)) (Value.ref (s.heap.objs.size+1)::(us++ds)):=.cons rfl (r.append hd)
 have hl:(Value.ref (s.heap.objs.size+1)::us++ds).length=ps.length:=by
  have e:=D.length
  rw [F.len _ _ _ _ J] at e
  exact e.symm
 refine wpAny_call (JD (f:=f) I.q_ M.makes M.init (beq_iff_eq.mp M.fn) (codeAny_mono (F.run _ X.stack _ _ ⟨Value.ref (s.heap.objs.size+1)::us,[]⟩ (Value.ref (s.heap.objs.size+1)::(us++ds)) _ _ E (Z.make C us [])
  (z.env0.make C us []) (hb _ (Value.ref (s.heap.objs.size+1)::us) z.q_ hl) D J) λr s' n=>?_))
 cases r with
 | error e=>exact Y pins B _ _ e s' z n
 | ok fl=>
  cases fl with
  | ret u=>
   obtain ⟨v,H',I3,O,ev,U⟩:=z.after n
   subst ev
   exact ⟨O,⟨V.ref (s.heap.objs.size+1),H',I3,rfl,U⟩⟩
  | next=>exact False.elim n
  | brk=>exact False.elim n
  | cont=>exact False.elim n
theorem JK (M:Mk X.K C f) (F:bY X.prog X.w X.K X.mg X.base CX k f fd ps sp) (B:bR (k+1) X.A) (J:Gl X x) (D:X.mg x=some (.ref C)) (O:Binds X.K fd ps ds) (hd:Vals HB ds) (z:Passes CX X E)
  (n:(x == ("__debug__":Str))=false:=by decide):PE X (.Call (.Name x p) [] [] pos) (ZR C sp HB E ZM):=by
 intro pins s σ H Q I h
 refine yV (jo I J D ?_ n)
 exact PySem.W.callWith_K0 I.q_ M.kp (JH (us:=[]) M F B O hd z I .nil h)
end
structure au (N P:List Str) (sc:Scope):Prop where
 kind:sc.kind=.function
 co:sc.isCoroutine=false
 gen:sc.isGenerator=false
 nd:N.Nodup
 pre:N.take P.length=P
 par:∀x∈P,sc.names.lookup x=some .local\/sc.names.lookup x=some .cell
 V1:∀y∈sc.names,y.2≠.free
theorem uv {z:Str->Option NameKind} {x:Str}:∀{binds:List (Str × Value)} {m:Str->Option Value},(∀v,(x,v) ∉ binds)->bindL z binds m x=m x
 | [],_,_=>rfl
 | (n,v)::r,m,h=>by
  unfold bindL
  rw [uv λw B=>h w (zp _ B)]
  split
  ·have:x≠n:=by rintro rfl;exact h v zo
   simp [this]
  ·rfl
theorem uw {z:Str->Option NameKind} {x:Str}:∀{binds:List (Str × Value)} {m:Str->Option Value},(∀v,(x,v) ∉ binds)->bindC z binds m x=m x
 | [],_,_=>rfl
 | (n,v)::r,m,h=>by
  unfold bindC
  rw [uw λw B=>h w (zp _ B)]
  split
  ·rfl
  ·have:x≠n:=by rintro rfl;exact h v zo
   simp [this]
theorem ux {n:Str->Option NameKind} {x:Str} {v:Value}:∀{P:List Str} {vs:List Value} {i:Nat} {m:Str->Option Value},P.Nodup->P[i]? = some x->vs[i]? = some v->n x=some .local->
  bindL n (P.zip vs) m x=some v
 | [],_,_,_,_,h,_,_=>by simp at h
 | _::_,[],_,_,_,_,h,_=>by simp at h
 | p::P,w::vs,0,m,nd,h1,h2,hk=>by
  simp at h1 h2;subst h1;subst h2
  show bindL n ((p,w)::P.zip vs) m p=_
  unfold bindL
  rw [uv λv z=>(yq.mp nd).1 (List.of_mem_zip z).1,zm hk]
  simp
 | p::P,w::vs,i+1,m,nd,h1,h2,hk=>by
  show bindL n ((p,w)::P.zip vs) m x=_
  unfold bindL
  exact ux (i:=i) (yq.mp nd).2 (by simpa using h1) (by simpa using h2) hk
theorem uy {n:Str->Option NameKind} {x:Str} {v:Value}:∀{P:List Str} {vs:List Value} {i:Nat} {m:Str->Option Value},P.Nodup->P[i]? = some x->vs[i]? = some v->n x≠some .local->
  bindC n (P.zip vs) m x=some v
 | [],_,_,_,_,h,_,_=>by simp at h
 | _::_,[],_,_,_,_,h,_=>by simp at h
 | p::P,w::vs,0,m,nd,h1,h2,hk=>by
  simp at h1 h2;subst h1;subst h2
  show bindC n ((p,w)::P.zip vs) m p=_
  unfold bindC
  rw [uw λv z=>(yq.mp nd).1 (List.of_mem_zip z).1,zi hk]
  simp
 | p::P,w::vs,i+1,m,nd,h1,h2,hk=>by
  show bindC n ((p,w)::P.zip vs) m x=_
  unfold bindC
  exact uy (i:=i) (yq.mp nd).2 (by simpa using h1) (by simpa using h2) hk
def start (N:List Str) (vs:List V):St:=vs.map some++List.replicate (N.length - vs.length) none
def fK (CX:Hz) (P:Program) (w:World) (K:PySem.W.Frag) (mg:Str->Option Value) (base:Heap) (N:List Str) (z:Str) (n:Scope) (f:Addr) (D:Value) (A:Around) (outer:List Env) (s:Shared) (H:Hp) (E:XK):Cx where
 prog:=P
 w:=w
 K:=K
 mg:=mg
 base:=base
 A:=A.deeper (envOfC z n s.heap.objs.size f D)
 N:=N
 s₀:=s
 H₀:=H
 env:=envOfC z n s.heap.objs.size f D
 outer:=outer
 stack:=envOfC z n s.heap.objs.size f D::outer
 ex:=[]
 calm:=true
 fn:=λ_=>true
 pn:=[]
 xe:=λe s'=>wpAny (model P w) (A.deeper (envOfC z n s.heap.objs.size f D)) (leaving (envOfC z n s.heap.objs.size f D) e) (λ_ B=>CX outer H s E e B) (λI B=>CX outer H s E I B) s'
theorem z_ {z:Scope} {n:Nat} {x:Str} (h:z.names.lookup x=some .cell):∃c,(cellsFrom n z.names []).lookup x=some c:=by
 have q:=PySem.W.cellsFrom_some z.names n [] (.inl h)
 exact yO.mp q
theorem HD {CX:Hz} {P:Program} {w:World} {K:PySem.W.Frag} {mg:Str->Option Value} {base:Heap} {N ps:List Str} {D:Str} {B:Scope} {f:Addr} {Z:Value} {A:Around} {outer:List Env} {s s1:Shared} {H:Hp} {E:XK} {us:List Value} {vs:List V}
  (S:au N ps B) (hd:A.handled=none) (I:C_ P w K mg base A outer s H) (hl:vs.length=ps.length) (r:Vals vs us)
  (x:InCallC s s.heap.objs.size (bindL (envOfC D B s.heap.objs.size f Z).kindOf (ps.zip us) λ_=>none) (cellsFrom (s.heap.objs.size+1) B.names []) (bindC (envOfC D B s.heap.objs.size f Z).kindOf (ps.zip us) λ_=>none) s1) :
  Inv (fK CX P w K mg base N D B f Z A outer s H E) [] (start N vs) H s1:=by
 have hpl:ps.length<=N.length:=by have:=yn List.length S.pre;rw [yD] at this;omega
 obtain ⟨h1,tk,rfl,hk⟩:=x.done
 have J:∀b:Addr,b ∉ (fK CX P w K mg base N D B f Z A outer s H E).ex:=λb z=>absurd (show b∈([]:List Addr) from z) (by simp)
 refine ⟨⟨I.mod,S.kind,rfl,rfl,zx _,λy z c h1 h2=>?_,λy O=>?_,λy c _ h=>?_,λ_=>hd,Around.frames_deeper I.frames,.inr ⟨rfl,rfl⟩,λb z=>absurd z (J b),I.bs,I.Hi,λb _ _=>J b,λb z=>absurd z (J b),I.jP,I.Ji⟩,
  rfl,I.bare,Un.kept hk,⟨_,x.toInCall.ns,λi y v h1 h2 h3=>?_⟩,λy c h=>⟨_,x.cell y c h⟩,I.hok.fresh (zx _),λy c h=>?_,λp Y=>absurd (show p∈([]:List (Addr × Obj)) from Y) (by simp),I.hok.kept hk,?_⟩
 ·exact name_of_addr x.apart (yR h1) (yR h2)
 ·have O:B.names.lookup y=some .cell\/B.names.lookup y=some .free:=O
  rcases O with O|O
  ·exact z_ O
  ·exact absurd rfl (S.V1 _ (yR O))
 ·exact xt (x.above y c (yR h))
 ·have hi:i<vs.length:=by
   unfold start at h2
   by_cases hi:i<vs.length
   ·exact hi
   ·rw [zZ (by simpa using hi)] at h2
    rw [zU] at h2
    split at h2<;>cases h2
  have ha:vs[i]? = some v:=by
   unfold start at h2
   rw [zP (by simpa using hi),zO] at h2
   cases e:vs[i]? with
   | none=>rw [e] at h2;cases h2
   | some a=>rw [e] at h2;cases (h2);rfl
  obtain ⟨u,hu,rv⟩:=r.get ha
  have Y:ps[i]? = some y:=by
   rw [<-S.pre,List.getElem?_take_of_lt (by omega)];exact h1
  have U:ps.Nodup:=by rw [<-S.pre];exact S.nd.sublist (List.take_sublist _ _)
  refine ⟨u,rv,?_⟩
  rcases S.par y (yE Y) with k|k
  ·exact .inl ⟨k,ux U Y hu k⟩
  ·obtain ⟨c,e⟩:=z_ (n:=s.heap.objs.size+1) k
   refine .inr ⟨.inl k,c,e,?_⟩
   have q:=x.cell y c e
   rw [uy U Y hu (by show B.names.lookup y≠_;rw [k];decide)] at q
   exact q
 ·exact I.hok.fresh (xt (x.above y c (yR h)))
 ·unfold start
  show _=N.length
  rw [zj,zd,zE]
  omega
theorem TJ {CX:Hz} {P:Program} {w:World} {K:PySem.W.Frag} {mg:Str->Option Value} {base:Heap} {k:Nat} {f:Addr} {name B:Str} {O:Arguments} {body:List Stmt} {z:Scope} {dV kV doc pm D ct oc:Value} {an od:Option Addr}
  {osl:Array (Option Value)} {N ps:List Str} {sp:Sp} (lk:K.lookup f=some ⟨oc,od,.func (PySem.W.fnOf name B O body z dV kV doc pm an D ct),osl⟩) (hcd:PySem.W.codeIn K D B=true) (S:au N ps z)
  (len:∀vs H Q E,sp vs H Q E->vs.length=ps.length)
  (Y:∀(A:Around) (outer:List Env) (s:Shared) (H:Hp) (vs:List V) (Q:VK) (E:XK),bR k (A.deeper (envOfC B z s.heap.objs.size f D))->sp vs H Q E->
   ∃t,gO (fK CX P w K mg base N B z f D A outer s H E) body t/\t { nx:=λ_ H'=>Q .non H',rt:=Q } (start N vs) H) :
  bY P w K mg base CX (k+1) f (PySem.W.fnOf name B O body z dV kV doc pm an D ct) ps sp:=by
 refine ⟨len,λA outer s H args us vs Q E hr e0 hb r hsp=>?_⟩
 have hl:=len _ _ _ _ hsp
 have KX:K.In s.heap:=e0.mod.Qh.keeps λb o e=>(e0.bs b o e).1
 have lim:s.heap.NoLimit:=e0.mod.nolimit.keeps λb o e=>(e0.bs b o e).1
 have U:∀y∈ps.zip us,z.names.lookup y.1=some .local\/(z.names.lookup y.1=some .cell/\((cellsFrom (s.heap.objs.size+1) z.names []).lookup y.1).isSome=true):=λ⟨n,v⟩ hy=>by
  rcases S.par n (List.of_mem_zip hy).1 with q|q
  ·exact .inl q
  ·exact .inr ⟨q,PySem.W.cellsFrom_some _ _ _ (.inl q)⟩
 refine codeAny_call_function hr.depth (KX _ _ lk) rfl S.co S.gen rfl (PySem.W.codeRec_of KX hcd) (hb _ _ _ _ ?_)
 refine wpAny_newFunctionEnv_cells S.kind U λenv he s1 x=>?_
 subst he
 refine ⟨lim.keeps x.toInCall.keep,codeAny_func ?_⟩
 obtain ⟨t,ht,hq⟩:=Y A outer s H vs Q E (hr.deeper _) hsp
 have I:Inv (fK CX P w K mg base N B z f D A outer s H E) [] (start N vs) H s1:=HD S hr.hd e0 hl r x
 refine yT (ht [] s1 (start N vs) H _ I hq) (λfl s' Z=>?_) λe s' Z=>Z
 have fin:∀{σ':St} {H':Hp} {v:V} {u:Value},Inv (fK CX P w K mg base N B z f D A outer s H E) [] σ' H' s'->RelV v u->Q v H'->CE outer P w H s Q u s':=
  λ{σ' H' v u} J rv q=>⟨v,H',J.os,J.bare,J.base,J.hok,rv,q⟩
 cases fl with
 | ret u=>
  obtain ⟨v,σ',H',J,rv,q⟩:=Z
  exact fin J rv q
 | next=>
  obtain ⟨σ',H',J,q⟩:=Z
  exact fin (v:=V.non) (u:=Value.none) J rfl q
 | brk=>
  obtain ⟨_,_,_,q⟩:=Z
  exact False.elim q
 | cont=>
  obtain ⟨_,_,_,q⟩:=Z
  exact False.elim q
section
variable {X:Cx} {x:Str} {p pos:Pos} {e:Expr} {es:List Expr} {t:TA} {id T:String} {r:List V->Hp->VK->Prop}
def tCB (r:List V->Hp->VK->Prop) (t:TA):TE:=λσ H Q=>t σ H λvs H1=>r vs H1 Q
theorem iY (hc:jR X (.builtin id) r) (Z:Gl X x) (Y:X.mg x=none) (O:bootBuiltins x=some (.builtin id)) (ha:PA X (e::es) t) (U:x≠"__name__":=by decide) (n:(x == ("__debug__":Str))=false:=by decide)
  (he:starEach (e::es) X.env=(false,eval e X.env)::starEach es X.env:=by rfl) (hpl:(backTo pos (starEach es X.env)).any (·.1)=false:=by rfl):PE X (.Call (.Name x p) (e::es) [] pos) (tCB r t):=by
 intro pins s σ H Q I h
 refine yV (gD I Z Y O ?_ U n)
 exact PyProof.Rows.callWith_builtin1 (bu (ha pos pins s σ H _ I h) λB D z=>by obtain ⟨vs,H1,I1,J,q1⟩:=z;exact hc pins D σ H1 vs B Q I1 J q1) he hpl
theorem oZ (hc:jR X (.type T) r) (Z:Gl X x) (Y:X.mg x=none) (O:bootBuiltins x=some (.type T)) (ha:PA X (e::es) t) (U:x≠"__name__":=by decide) (n:(x == ("__debug__":Str))=false:=by decide)
  (he:starEach (e::es) X.env=(false,eval e X.env)::starEach es X.env:=by rfl) (hpl:(backTo pos (starEach es X.env)).any (·.1)=false:=by rfl):PE X (.Call (.Name x p) (e::es) [] pos) (tCB r t):=by
 intro pins s σ H Q I h
 refine yV (gD I Z Y O ?_ U n)
 exact zX (bu (ha pos pins s σ H _ I h) λB D z=>by obtain ⟨vs,H1,I1,J,q1⟩:=z;exact hc pins D σ H1 vs B Q I1 J q1) he hpl
end
end L2
namespace HT
open PySem PyProof.Rows
section
variable {prog:Program} {w:World} {A:Around} {E:Value->Shared->Prop} {s:Shared}
def xJ (n d:Nat):Option Int->Nat
 | none=>d
 | some v=>if v<0 then (v+(n:Int)).toNat else min v.toNat n
end
end HT
namespace L2
open PySem PySem.Spec PyProof.Rows
abbrev TO:=St->Hp->(Option Int->Hp->Prop)->Prop
def PO (X:Cx) (e:Option Expr) (t:TO):Prop:=
 ∀(pins:List (Addr × Obj)) (s:Shared) (σ:St) (H:Hp) (Q:Option Int->Hp->Prop),Inv X pins σ H s->t σ H Q->
  wpAny (model X.prog X.w) X.A (evalPart e X.env) (λu s'=>∃o H',Inv X pins σ H' s'/\IsPart u o/\Q o H') X.xe s
def Qx:TO:=λ_ H Q=>Q none H
def ZS (t:TE):TO:=λσ H Q=>t σ H λx H1=>∃i,x=.int i/\Q (some i) H1
section
variable {X:Cx} {e:Expr} {te:TE} {lo hi:Option Expr} {tl th:TO} {pos p2:Pos}
theorem Qy:PO X none Qx:=by
 intro pins s σ H Q I h
 rw [evalPart_none]
 exact zC ⟨none,H,I,.none,h⟩
theorem Qz (h:PE X e te):PO X (some e) (ZS te):=by
 intro pins s σ H Q I B
 rw [evalPart_some]
 refine bu (h pins s σ H _ I B) λu J n=>?_
 obtain ⟨x,H1,D,z,q1⟩:=n
 obtain ⟨i,rfl,q⟩:=q1
 obtain ⟨t,rfl⟩:=z
 exact ⟨some i,H1,D,.int i t,q⟩
def SlR (X:Cx) (r:V->Option Int->Option Int->Hp->VK->Prop):Prop:=
 ∀(pins:List (Addr × Obj)) (s:Shared) (σ:St) (H:Hp) (x:V) (v vl vu:Value) (lo hi:Option Int) (sl:Addr) (Q:VK),Inv X pins σ H s->RelV x v->s.heap.IsSliceOf sl vl vu .none->IsPart vl lo->IsPart vu hi->r x lo hi H Q->
  ∃T id,typeLookup (.type T) "__getitem__"=pure (some (.builtin id))/\s.TypeIs v T/\wpAny (model X.prog X.w) X.A (getItem v (.ref sl)) (EP X pins σ Q) X.xe s
def tSl (r:V->Option Int->Option Int->Hp->VK->Prop) (B:TE) (n z:TO):TE:=λσ H Q=>B σ H λx H1=>n σ H1 λl H2=>z σ H2 λu D=>r x l u D Q
theorem JL {r:V->Option Int->Option Int->Hp->VK->Prop} (hr:SlR X r) (he:PE X e te) (hl:PO X lo tl) (hu:PO X hi th):PE X (.Subscript e (.Slice lo hi none p2) pos) (tSl r te tl th):=by
 intro pins s σ H Q I h
 refine Subscript_ (bu (he pins s σ H _ I h) λv U D=>?_)
 obtain ⟨x,H1,I1,Y,q1⟩:=D
 refine wpAny_Slice (bu (hl pins U σ H1 _ I1 q1) λB O ⟨l,H2,I2,pl,q2⟩=>bu (hu pins O σ H2 _ I2 q2) λz n D=>?_)
 obtain ⟨u,J,I3,pu,Z⟩:=D
 rw [evalPart_none]
 refine zC ?_
 have I4:Inv X pins σ J { n with heap:=n.heap.push { cls:=.type "slice",data:=.fields #[B,z,.none] } }:=I3.kept (t':=n.toks) λb ob q=>zu _ q
 obtain ⟨T,id,hT,ht,hg⟩:=hr pins { n with heap:=n.heap.push { cls:=.type "slice",data:=.fields #[B,z,.none] } } σ J x v B z l u n.heap.objs.size Q I4 Y (Heap.IsSliceOf.new ..) pl pu Z
 show wpAny (model X.prog X.w) X.A (subscriptTail e (.Slice lo hi none p2) v (.ref n.heap.objs.size)) (EP X pins σ Q) X.xe { n with heap:=n.heap.push { cls:=.type "slice",data:=.fields #[B,z,.none] } }
 exact tail_any (ops:=[.ref n.heap.objs.size,v]) ht hT hg (by with_unfolding_all rfl)
def HF (xs:List V) (lo hi:Option Int):List V:=(xs.drop (HT.xJ xs.length 0 lo)).take (HT.xJ xs.length xs.length hi - HT.xJ xs.length 0 lo)
theorem Aa (xs:List V) (lo hi:Option Int):(HF xs lo hi).length<=xs.length:=by
 unfold HF
 rw [yD,yU]
 omega
end
def Ab (n:Nat) (i:Int):Option Nat:=if 0<=i then (if i<n then some i.toNat else none) else if -(n:Int)<=i then some (i+n).toNat else none
def iy {α:Type} (xs:List α) (i:Int):Option α:=(Ab xs.length i).bind λj=>xs[j]?
theorem Fp {n:Nat} {i:Int} {j:Nat} (h:Ab n i=some j):seqIndex? i n=some j/\j<n/\-(n:Int)<=i/\i<n:=by
 unfold Ab at h
 by_cases h0:0<=i
 ·rw [zm h0] at h
  by_cases h1:i<n
  ·rw [zm h1] at h
   have e:i.toNat=j:=yg h
   exact ⟨by rw [seqIndex_of h0 h1,e],by omega,by omega,h1⟩
  ·rw [zi h1] at h;cases h
 ·rw [zi h0] at h
  by_cases h1:-(n:Int)<=i
  ·rw [zm h1] at h
   have e:(i+n).toNat=j:=yg h
   exact ⟨by rw [seqIndex_neg (by omega) h1,e],by omega,h1,by omega⟩
  ·rw [zi h1] at h;cases h
theorem vo {α:Type} {xs:List α} {i:Int} {v:α} (h:iy xs i=some v):∃j,seqIndex? i xs.length=some j/\xs[j]? = some v/\j<xs.length/\-(xs.length:Int)<=i/\i<xs.length:=by
 unfold iy at h
 cases e:Ab xs.length i with
 | none=>rw [e] at h;cases h
 | some j=>
  rw [e] at h
  obtain ⟨h1,h2,z,n⟩:=Fp e
  exact ⟨j,h1,h,h2,z,n⟩
theorem gU {α:Type} {xs:List α} {j:Nat} {v:α} (h:xs[j]? = some v):iy xs (j:Int)=some v:=by
 have n:j<xs.length:=(zt.mp h).1
 have e:Ab xs.length (j:Int)=some j:=by
  unfold Ab
  rw [zm (by omega),zm (by omega)];simp
 unfold iy;rw [e];exact h
def nG (b:Expr):Prop:=∀o i,subscripted b false o i=operate [o,i] (getItem o i)
def P0 (X:Cx) (r:R2):Prop:=
 ∀(value n:Expr) (pins:List (Addr × Obj)) (s:Shared) (σ:St) (H:Hp) (x y:V) (v u:Value) (Q:VK),Inv X pins σ H s->RelV x v->RelV y u->r x y H Q->
  subscripted n false v u=operate [v,u] (getItem v u)->wpAny (model X.prog X.w) X.A (subscriptTail value n v u) (EP X pins σ Q) X.xe s
def Zc (X:Cx) (n:String) (r:V->List V->Hp->VK->Prop):Prop:=
 ∀(pins:List (Addr × Obj)) (s:Shared) (σ:St) (H:Hp) (x:V) (xs:List V) (v:Value) (us:List Value) (Q:VK),Inv X pins σ H s->RelV x v->Vals xs us->r x xs H Q->
  wpAny (model X.prog X.w) X.A (call (.builtin n) (v::us)) (EP X pins σ Q) X.xe s
section
variable {X:Cx} {a b:Expr} {ta tb:TE} {pos:Pos}
theorem P0.or {D:R2} (h:P0 X r) (h':P0 X D):P0 X (λx y H Q=>r x y H Q\/D x y H Q):=by
 intro value n pins s σ H x y v u Q I B z q J
 rcases q with q|q
 ·exact h value n pins s σ H x y v u Q I B z q J
 ·exact h' value n pins s σ H x y v u Q I B z q J
theorem JM (J:P0 X r) (U:PE X a ta) (O:PE X b tb) (D:nG b):PE X (.Subscript a b pos) (ZG r ta tb):=by
 intro pins s σ H Q I h
 exact Subscript_ (Qn U O I h λv u n x y H2 Y B z q=>J a b pins n σ H2 x y v u Q Y B z q (D _ _))
def V2 (K:PySem.W.Frag):R2:=λx y H Q=>∃p xs i v,x=.ref p/\y=.int i/\jr K H p xs/\iy xs i=some v/\Q v H
def ZV (K:PySem.W.Frag):R2:=λx y H Q=>∃p xs i v,x=.ref p/\y=.int i/\Cr K H p xs/\iy xs i=some v/\Q v H
def adg:R2:=λx y H Q=>∃z i c,x=.str z/\y=.int i/\z.length<=sizeLine/\iy z.cps.toList i=some c/\Q (.str ⟨#[c]⟩) H
theorem Fq:P0 X (V2 X.K):=by
 intro value n pins s σ H x y v u Q I Z Y h O
 obtain ⟨p,xs,i,z,rfl,rfl,hq,he,q⟩:=h
 cases Z
 obtain ⟨t,rfl⟩:=Y
 obtain ⟨D,r,pl,hz⟩:=I.list hq
 obtain ⟨j,h1,h2,h3,h4,h5⟩:=vo he
 obtain ⟨w,U,B⟩:=r.get h2
 have hl:=r.length
 have hn:=lY
 have fin:EP X pins σ Q w s:=⟨z,H,I,B,q⟩
 by_cases h0:0<=i
 ·have J:i.toNat=j:=by
   rw [seqIndex_of h0 h5] at h1
   exact yg h1
  exact item_listR pl.isList h0 (by omega) (by rw [J];simpa using U) fin O
 ·have J:(i+(D.toArray.size:Int)).toNat=j:=by
   rw [seqIndex_neg (by omega) h4] at h1
   rw [zG,<-hl]
   exact yg h1
  exact subscriptTail_builtinR (x:=w) pl.isList.typeIs slot_list_getitem.lookup
   (wpAny_getItem_list_neg (Q:=λr s'=>r=w/\EP X pins σ Q r s') pl.isList (by omega) (by rw [zG]<;>omega) (by omega) (by rw [J];simpa using U) ⟨rfl,fin⟩) O
theorem V3:P0 X (ZV X.K):=by
 intro value n pins s σ H x y v u Q I J D h U
 obtain ⟨p,xs,i,z,rfl,rfl,Y,he,q⟩:=h
 cases J
 obtain ⟨t,rfl⟩:=D
 obtain ⟨O,r,pl,hz⟩:=I.tuple Y
 obtain ⟨j,h1,h2,h3,h4,h5⟩:=vo he
 obtain ⟨w,ew,B⟩:=r.get h2
 have Z:=r.length
 have hn:=lY
 have fin:EP X pins σ Q w s:=⟨z,H,I,B,q⟩
 exact subscriptTail_builtinR (x:=w) pl.typeIs slot_tuple_getitem.lookup
  (getItem_tuple (j:=j) (Q:=λr s'=>r=w/\EP X pins σ Q r s') pl (by omega) (by omega) (by rw [zG,<-Z];exact h1) (by simpa using ew) ⟨rfl,fin⟩) U
theorem V4:P0 X adg:=by
 intro value n pins s σ H x y v u Q I D B h J
 obtain ⟨z,i,c,rfl,rfl,hz,U,q⟩:=h
 obtain ⟨t,rfl⟩:=D
 obtain ⟨t',rfl⟩:=B
 obtain ⟨j,h1,h2,h3,Z,Y⟩:=vo U
 have O:z.cps.toList.length=z.length:=by simp [Str.length]
 rw [O] at h1 Z Y
 have hn:=lY
 exact tail_any (typeIs_str s z t) slot_str_getitem.lookup (getItem_str (c:=c) (by
  have e1:decide (i < -(2 ^ 63:Int))=false:=zY (by omega)
  have e2:decide (i>=2 ^ 63)=false:=zY (by omega)
  rw [e1,e2,Bool.or_false]) (by rw [h1];simpa using h2) ⟨.str ⟨#[c]⟩,H,I.tok _,⟨_,rfl⟩,q⟩) J
theorem Dd (z:List Value) (n j:Nat) (u:Value):Obj.mapSeq (·.setIfInBounds j u) { cls:=.type "list",data:=.seq z.toArray n }={ cls:=.type "list",data:=.seq (z.set j u).toArray n }:=by
 simp [Obj.mapSeq]
theorem Inv.lst {D:List (Addr × Obj)} {J:St} {H:Hp} {s:Shared} {p:Addr} {xs:List V} (I:Inv X D J H s) (h:H p=some (.lst xs)) :
  ∃(B:List Value) (n:Nat),Vals xs B/\s.heap.get? p=some { cls:=.type "list",data:=.seq B.toArray n }/\xs.length<=sizeLine:=by
 obtain ⟨z,B,n,r,e⟩:=I.hok p _ h
 exact ⟨B,n,r,e,z⟩
theorem Inv.V5 {s:Shared} {B:List V} {z its':List Value} (I:Inv X pins σ H s) (h:H p=some (.lst xs))
  (J:s.heap.get? p=some { cls:=.type "list",data:=.seq z.toArray n }) (hf:f { cls:=.type "list",data:=.seq z.toArray n }={ cls:=.type "list",data:=.seq its'.toArray n' }) (r:Vals B its') (D:B.length<=sizeLine) (t:Nat) :
  Inv X pins σ (upd H p (.lst B)) { s with heap:=s.heap.update p f,toks:=t }:=by
 have e:(s.heap.update p f).get? p=some { cls:=.type "list",data:=.seq its'.toArray n' }:=by
  rw [Heap.get?_update_self f J (by rw [hf]<;>rfl),hf]
 refine I.write (x:=p) (e:=p) (by rw [h];trivial) (.inl rfl) (λb u O q=>(yS _ _ (Ne.symm O)).trans q) ⟨_,e⟩ ?_
 exact ⟨D,its',n',r,e⟩
def ZW:V->V->V->Hp->(Hp->Prop)->Prop:=λo i v H Q=>∃p xs k j,o=.ref p/\i=.int k/\H p=some (.lst xs)/\Ab xs.length k=some j/\Q (upd H p (.lst (xs.set j v)))
theorem set_list:Vs X ZW:=by
 intro pins s σ H o i v ov iv u Q I ro ri rv h
 obtain ⟨p,xs,k,j,rfl,rfl,O,hj,q⟩:=h
 cases ro
 obtain ⟨t,rfl⟩:=ri
 obtain ⟨z,n,r,B,hz⟩:=I.lst O
 obtain ⟨h1,h2,Y,U⟩:=Fp hj
 have D:=r.length
 have hn:=lY
 have Z:Inv X pins σ (upd H p (.lst (xs.set j v))) { s with heap:=s.heap.update p (Obj.mapSeq (·.setIfInBounds j u)) }:=
  I.V5 O B (Dd z n j u) (r.set rv j) (by rw [yc];exact hz) s.toks
 by_cases h0:0<=k
 ·have J:k.toNat=j:=by
   rw [seqIndex_of h0 U] at h1
   exact yg h1
  exact PySem.W.ki_setAt B h0 (by omega) (by rw [zG,<-D];exact U) (by rw [J];exact ⟨_,Z,q⟩)
 ·have J:(k+(z.toArray.size:Int)).toNat=j:=by
   rw [seqIndex_neg (by omega) Y] at h1
   rw [zG,<-D]
   exact yg h1
  exact PySem.W.ki_setBack B (by omega) (by rw [zG,<-D];exact Y) (by omega) (by rw [J];exact ⟨_,Z,q⟩)
theorem vp (lo hi:Option Int) (n:Nat):(sliceBounds lo hi none n).1=((HT.xJ n 0 lo:Nat):Int)/\(sliceBounds lo hi none n).2.1=((HT.xJ n n hi:Nat):Int)/\(sliceBounds lo hi none n).2.2=1:=by
 refine ⟨?_,?_,rfl⟩
 ·cases lo with
  | none=>simp [sliceBounds,HT.xJ]
  | some i=>
   simp only [sliceBounds,HT.xJ,Option.getD_none,show (1:Int) > 0 by decide,if_true]
   by_cases h:i<0
   ·simp only [h,if_true]<;>omega
   ·simp only [h,if_false]<;>omega
 ·cases hi with
  | none=>simp [sliceBounds,HT.xJ]
  | some i=>
   simp only [sliceBounds,HT.xJ,Option.getD_none,show (1:Int) > 0 by decide,if_true]
   by_cases h:i<0
   ·simp only [h,if_true]<;>omega
   ·simp only [h,if_false]<;>omega
theorem ud (n:List Value) (lo hi:Option Int):slicePick n.toArray lo hi none=((n.drop (HT.xJ n.length 0 lo)).take (HT.xJ n.length n.length hi - HT.xJ n.length 0 lo)).toArray:=by
 obtain ⟨h1,h2,z⟩:=vp lo hi n.toArray.size
 unfold slicePick
 rw [h1,h2,z]
 simp only [sliceRange_one,pick_run,zG]<;>rfl
def ZX (K:PySem.W.Frag):V->Option Int->Option Int->Hp->VK->Prop:=λx lo hi H Q=>∃a xs,x=.ref a/\jr K H a xs/\∀p,H p=none->Q (.ref p) (upd H p (.lst (HF xs lo hi)))
theorem QB:SlR X (ZX X.K):=by
 intro pins s σ H x v vl Z lo hi sl Q I B Y pl D h
 obtain ⟨a,xs,rfl,U,q⟩:=h
 cases B
 obtain ⟨J,r,z,O⟩:=I.list U
 have n:=r.length
 refine ⟨"list",_,slot_list_getitem.lookup,z.isList.typeIs,?_⟩
 refine wpAny_getItem_list_slice z.isList Y pl D .none (by simp) ?_ (by rw [zG]<;>omega)
 rw [ud,<-n]
 refine ⟨.ref s.heap.objs.size,_,I.laid (t':=s.toks) (o:=.lst (HF xs lo hi)) (λb ob q=>zu _ q) (zx _) ?_,rfl,q _ (I.hok.fresh (zx _))⟩
 exact ⟨zQ (Aa xs lo hi) O,_,0,(r.drop (HT.xJ xs.length 0 lo)).take (HT.xJ xs.length xs.length hi - HT.xJ xs.length 0 lo),zD _ rfl⟩
theorem vq:iB X (compareOp .NotIn) (λx y H Q=>∃i j,x=.str i/\y=.str j/\Q (.bl (!(!(Builtin.Str.occurrences j i 0 j.length 1).isEmpty))) H):=by
 intro pins s σ H x y v u Q I z n h
 obtain ⟨i,j,rfl,rfl,q⟩:=h
 obtain ⟨t,rfl⟩:=z
 obtain ⟨B,rfl⟩:=n
 exact notIn_str ⟨.bl _,H,I,rfl,q⟩
theorem vz:jR X (.builtin "len") (λxs H Q=>∃p ys,xs=[.ref p]/\(jr X.K H p ys\/Cr X.K H p ys)/\Q (.int ys.length) H):=by
 intro pins s σ H xs U Q I r h
 obtain ⟨p,ys,rfl,z,q⟩:=h
 obtain ⟨u,rfl,J⟩:=vals1 r
 cases J
 have Y:=lY
 rcases z with z|z
 ·obtain ⟨D,B,pl,O⟩:=I.list z
  have n:=B.length
  exact Calls.call_len_list pl.isList (by simp only [zG]<;>omega) ⟨.int ys.length,H,I.tok _,⟨s.toks+1,by rw [zG,n]⟩,q⟩
 ·obtain ⟨D,B,pl,O⟩:=I.tuple z
  have n:=B.length
  exact len_tuple pl (by simp only [zG]<;>omega) ⟨.int ys.length,H,I.tok _,⟨s.toks+1,by rw [zG,n]⟩,q⟩
theorem vA:jR X (.builtin "len") (λxs H Q=>∃z,xs=[.str z]/\z.length<=sizeLine/\Q (.int z.length) H):=by
 intro pins s σ H xs n Q I r h
 obtain ⟨z,rfl,B,q⟩:=h
 obtain ⟨u,rfl,t,rfl⟩:=vals1 r
 have D:=lY
 exact len_str (by omega) ⟨.int z.length,H,I.tok _,⟨_,rfl⟩,q⟩
def Zd (K:PySem.W.Frag) (T:String) (x:V) (H:Hp):Prop:=match x with
 | .str _=>T="str"
 | .int _=>T="int"
 | .ref p=>(T="list"/\∃xs,jr K H p xs)\/(T="tuple"/\∃o,K.lookup p=some o/\o.cls=.type "tuple"/\o.dict=none)\/(T="dict"/\∃kvs,H p=some (.dK kvs))
 | _=>False
theorem JN {B:List (Addr × Obj)} {s:Shared} (I:Inv X B σ H s) (r:RelV x v) (ty:Zd X.K T x H) :
  s.TypeIs v T/\∀a,v=.ref a->∃J,s.heap.get? a=some J/\J.dict=none:=by
 cases x with
 | str z=>
  obtain ⟨t,rfl⟩:=r
  cases (show T="str" from ty)
  exact ⟨typeIs_str s z t,λ_ e=>nomatch e⟩
 | int i=>
  obtain ⟨t,rfl⟩:=r
  cases (show T="int" from ty)
  exact ⟨typeIs_int s i t,λ_ e=>nomatch e⟩
 | ref p=>
  cases r
  rcases ty with ⟨rfl,xs,U⟩|⟨rfl,o,D,Y,hd⟩|⟨rfl,kvs,D⟩
  ·obtain ⟨O,_,pl,_⟩:=I.list U
   refine ⟨pl.isList.typeIs,λa e=>?_⟩
   cases e
   obtain ⟨o,n,e,c,hd,_⟩:=pl
   exact ⟨o,e,hd⟩
  ·refine ⟨⟨o,I.q_ p o D,Y⟩,λa e=>?_⟩
   cases e
   exact ⟨o,I.q_ _ o D,hd⟩
  ·obtain ⟨_,_,_,_,o,_,_,e,ex,_⟩:=I.hok p _ D
   exact ⟨⟨o,e,ex.1⟩,λa e2=>by cases e2;exact ⟨o,e,ex.2.1⟩⟩
 | _=>exact False.elim ty
def adh (K:PySem.W.Frag) (T:String) (r:V->List V->Hp->VK->Prop) (n:TE):TE:=λσ H Q=>n σ H λx H1=>Zd K T x H1/\r x [] H1 Q
def tBM (K:PySem.W.Frag) (T:String) (r:V->List V->Hp->VK->Prop) (n:TE) (t:TA):TE:=λσ H Q=>n σ H λx H1=>Zd K T x H1/\t σ H1 λxs H2=>r x xs H2 Q
variable {o e:Expr} {es:List Expr} {to:TE} {t:TA} {name:Str} {apos cpos:Pos} {T id:String} {r:V->List V->Hp->VK->Prop}
theorem V6 (Y:PlainAttrs T) (slot:Slot T name id) (B:typeOf (.builtin id)=pure (.type "method_descriptor")) (hm:Zc X id r) (Z:PE X o to)
  (z:attributeBase o name X.env (eval o X.env)=eval o X.env:=by rfl) (n:(apos.endLine == cpos.line)=true:=by rfl):PE X (.Call (.Attribute o name apos) [] [] cpos) (adh X.K T r to):=by
 intro pins s σ H Q I h
 refine wpAny_Call_method0_late z n (bu (Z pins s σ H _ I h) λv U O=>?_)
 obtain ⟨x,H1,J,D,ty,q1⟩:=O
 obtain ⟨h1,h2⟩:=JN J D ty
 exact ⟨T,id,Y,slot,B,h1,h2,Calls.callWith_builtin rfl (PySem.evalArgs_none (hm pins U σ H1 x [] v [] Q J D .nil q1))⟩
theorem JP (pa:PlainAttrs T) (slot:Slot T name id) (O:typeOf (.builtin id)=pure (.type "method_descriptor")) (hm:Zc X id r) (ho:PE X o to) (ha:PA X (e::es) t)
  (B:attributeBase o name X.env (eval o X.env)=eval o X.env:=by rfl)
  (D:((backTo cpos (starEach (e::es) X.env)).all (λx=>!x.1) && (backToKw cpos (keywordEach [] X.env)).all (λx=>x.1.isSome)
   && decide ((e::es).length+([]:List Keyword).length+(if ([]:List Keyword).isEmpty then 0 else 1)<30))=true:=by rfl)
  (z:(apos.endLine == cpos.line)=true:=by rfl) (hs:starEach (e::es) X.env=(false,eval e X.env)::starEach es X.env:=by rfl) (n:(backTo cpos (starEach es X.env)).any (·.1)=false:=by rfl) :
  PE X (.Call (.Attribute o name apos) (e::es) [] cpos) (tBM X.K T r to t):=by
 intro pins s σ H Q I h
 refine wpAny_Call_method_late B D z rfl (bu (ho pins s σ H _ I h) λv s1 J=>?_)
 obtain ⟨x,H1,Y,U,ty,q1⟩:=J
 obtain ⟨h1,h2⟩:=JN Y U ty
 refine ⟨T,id,pa,slot,O,h1,h2,?_⟩
 have hA:=ha cpos pins s1 σ H1 _ Y q1
 rw [hs] at hA ⊢
 refine Calls.callWith_builtin (by show (false || (backTo cpos (starEach es X.env)).any (·.1))=false;rw [n]<;>rfl) (Calls.evalArgs_plain ?_)
 exact bu hA λZ s2 J=>by obtain ⟨vs,H2,I2,r2,q2⟩:=J;exact hm pins s2 σ H2 x vs v Z Q I2 U r2 q2
/- xs.append(e),list.index on a module's tuple .. are Zc facts of 06m -/
end
def MtM (X:Cx) (n:String) (r:V->List V->Hp->VK->Prop):Prop:=
 ∀(pins:List (Addr × Obj)) (s:Shared) (σ:St) (H:Hp) (x:V) (xs:List V) (v:Value) (us:List Value) (Q:VK),Inv X pins σ H s->RelV x v->Vals xs us->r x xs H Q->
  wpAny (model X.prog X.w) X.A (call (.builtin n) (v::us)) (EP X pins σ Q) X.xe s
theorem Vals.one:∀{x:V} {n:List Value},Vals [x] n->∃u,n=[u]/\RelV x u
 | _,_,.cons r .nil=>⟨_,rfl,r⟩
theorem Vals.zero:∀{n:List Value},Vals [] n->n=[]
 | _,.nil=>rfl
theorem Vals.dropLast {xs:List V} {us:List Value} (h:Vals xs us):Vals xs.dropLast us.dropLast:=by
 induction h with
 | nil=>exact .nil
 | cons r t ih=>
  cases t with
  | nil=>exact .nil
  | cons q t'=>exact .cons r ih
theorem Vals.eraseIdx:∀{xs:List V} {n:List Value} (i:Nat),Vals xs n->Vals (xs.eraseIdx i) (n.eraseIdx i)
 | _,_,_,.nil=>.nil
 | _,_,0,.cons _ t=>t
 | _,_,i+1,.cons r t=>.cons r (Vals.eraseIdx i t)
theorem Vals.reverse {xs:List V} {us:List Value} (h:Vals xs us):Vals xs.reverse us.reverse:=by
 induction h with
 | nil=>exact .nil
 | cons r t ih=>rw [yr,yr];exact Vals.append ih (.cons r .nil)
theorem Vals.rep (h:Vals xs us):∀k:Nat,Vals (List.replicate k xs).flatten (List.replicate k us).flatten
 | 0=>.nil
 | k+1=>by
  rw [zT,zT,yX,yX]
  exact Vals.append h (Vals.rep h k)
theorem Df {α:Type} (l:List α):l.eraseIdx (l.length - 1)=l.dropLast:=by
 induction l with
 | nil=>rfl
 | cons a r ih=>
  cases r with
  | nil=>rfl
  | cons b r=>
   have e:(a::b::r).length - 1=((b::r).length - 1)+1:=by
    have h1:(a::b::r).length=r.length+2:=rfl
    have h2:(b::r).length=r.length+1:=rfl
    omega
   rw [e,List.eraseIdx_cons_succ,ih]
   all_goals rfl
theorem foldl_rep (n:List Value):∀(k:Nat) (z:List Value),
  List.foldl (λD B=>D++B) z.toArray (List.replicate k n.toArray)=(z++(List.replicate k n).flatten).toArray
 | 0,z=>by simp
 | k+1,z=>by
  have e:z.toArray++n.toArray=(z++n).toArray:=by simp
  have e2:(z++n)++(List.replicate k n).flatten=z++(List.replicate (k+1) n).flatten:=by
   rw [zT,yX,yH]
  rw [<-e2,<-foldl_rep n k (z++n),<-e,zT,List.foldl_cons]
section
variable {X:Cx} {pins:List (Addr × Obj)} {σ:St} {H:Hp} {s:Shared} {l b:Addr} {xs ys zs:List V}
theorem Inv.QC {z its':List Value} (I:Inv X pins σ H s) (U:H l=some (.lst xs))
  (e:s.heap.get? l=some { cls:=.type "list",data:=.seq z.toArray n }) (hf:f z.toArray=its'.toArray) (D:Vals ys its') (B:ys.length<=sizeLine) :
  Inv X pins σ (upd H l (.lst ys)) { s with heap:=s.heap.update l (Obj.mapSeq f),toks:=t' }:=by
 have q:=PySem.IsL.update e f
 rw [hf] at q
 refine I.write (x:=l) (e:=l) (by rw [U];exact trivial) (.inl rfl) (λY u O J=>(yS s.heap (Obj.mapSeq f) (Ne.symm O)).trans J) ⟨_,q⟩ ?_
 exact ⟨B,its',_,D,q⟩
theorem Inv.ZZ {n:List Value} (I:Inv X pins σ H s) (B:Vals ys n) (z:ys.length<=sizeLine) :
  Inv X pins σ (upd H s.heap.objs.size (.lst ys)) { s with heap:=s.heap.push { cls:=.type "list",data:=.seq n.toArray },toks:=t' }:=
 I.laid (λ_ _ q=>zu _ q) (zx _) ⟨z,n,0,B,zD _ rfl⟩
theorem Inv.fresh (I:Inv X pins σ H s):H s.heap.objs.size=none:=I.hok.fresh (zx _)
theorem Inv.Ac (I:Inv X pins σ H s) (D:H l=some (.lst xs)):xs.length<=sizeLine/\∃(B:List Value) (n:Nat),Vals xs B/\xs.length=B.length/\s.heap.get? l=some { cls:=.type "list",data:=.seq B.toArray n }:=by
 obtain ⟨z,B,n,r,e⟩:=I.hok l _ D
 exact ⟨z,B,n,r,r.length,e⟩
theorem Ad (h:n<=sizeLine):Builtin.List.listTooLong n=false:=by
 unfold Builtin.List.listTooLong
 exact zY (by omega)
end
section
variable {X:Cx}
def QD:V->List V->Hp->VK->Prop:=λx vs H Q=>∃l xs y,x=.ref l/\vs=[y]/\H l=some (.lst xs)/\xs.length<sizeLine/\Q .non (upd H l (.lst (xs++[y])))
theorem HJ:MtM X "list.append" QD:=by
 intro pins s σ H x vs v Y Q I J O h
 obtain ⟨l,xs,y,rfl,rfl,D,Z,q⟩:=h
 cases J
 obtain ⟨u,rfl,U⟩:=O.one
 obtain ⟨z,B,n,r,hl,e⟩:=I.Ac D
 refine xa F.slot_list_append ⟨_,e,rfl⟩ F.entry_list_append (F.args_list_append_2 _ _) (PySem.list_append l B.toArray n u (by rw [zG];omega)) ⟨e,?_⟩
 refine ⟨.non,_,I.QC (its':=B++[u]) D e (by simp) (r.append (.cons U .nil)) ?_,rfl,q⟩
 rw [zj,yd]
 omega
def QF:V->List V->Hp->VK->Prop:=λx vs H Q=>∃l b xs zs,x=.ref l/\vs=[.ref b]/\H l=some (.lst xs)/\H b=some (.lst zs)/\xs.length+zs.length<=sizeLine/\Q .non (upd H l (.lst (xs++zs)))
theorem Ze:MtM X "list.extend" QF:=by
 intro pins s σ H x vs v us Q I Y Z h
 obtain ⟨l,b,xs,zs,rfl,rfl,U,hB,hz,q⟩:=h
 cases Y
 obtain ⟨u,rfl,ru⟩:=Z.one
 cases ru
 obtain ⟨z,D,n,r,hl,e⟩:=I.Ac U
 obtain ⟨z2,B,n2,r2,hl2,e2⟩:=I.Ac hB
 have O:D.toArray.size+B.toArray.size<=sizeLine:=by rw [zG,zG];omega
 have J:¬(!D.toArray.isEmpty && Builtin.List.listTooLong (D.toArray.size+B.toArray.size))=true:=by
  rw [Ad O,Bool.and_false]
  exact ym
 refine xa F.slot_list_extend ⟨_,e,rfl⟩ F.entry_list_extend (F.args_list_extend_2 _ _)
  (AutoSeq1.list_extend_list_list_0 l D.toArray n b B.toArray n2 J (by rw [zG];omega) (by omega)) ⟨e,e2,?_⟩
 refine ⟨.non,_,I.QC (its':=D++B) U e (by simp) (r.append r2) ?_,rfl,q⟩
 rw [zj]
 omega
def adi:V->List V->Hp->VK->Prop:=λx vs H Q=>∃l xs y,x=.ref l/\vs=[]/\H l=some (.lst xs)/\xs[xs.length - 1]? = some y/\Q y (upd H l (.lst xs.dropLast))
theorem adk:MtM X "list.pop" adi:=by
 intro pins s σ H x vs v us Q I U Y h
 obtain ⟨l,xs,y,rfl,rfl,O,hy,q⟩:=h
 cases U
 have J:=Y.zero
 subst J
 obtain ⟨z,B,n,r,hl,e⟩:=I.Ac O
 obtain ⟨u,hu,Z⟩:=r.get hy
 have D:B.toArray[B.toArray.size - 1]? = some u:=by
  show B.toArray[B.length - 1]? = some u
  rw [<-Array.getElem?_toList,<-hl]
  exact hu
 refine xa F.slot_list_pop ⟨_,e,rfl⟩ F.entry_list_pop (F.args_list_pop_1 _) (MeetsSeq.list_pop_last l B.toArray n u D (by rw [zG];omega)) ⟨e,?_⟩
 refine ⟨y,_,I.QC (its':=B.dropLast) O e ?_ r.dropLast ?_,Z,q⟩
 ·show B.toArray.eraseIdxIfInBounds (B.toArray.size - 1)=B.dropLast.toArray
  rw [zG,List.eraseIdxIfInBounds_toArray,Df]
 ·rw [List.length_dropLast]
  omega
def JR:V->List V->Hp->VK->Prop:=λx vs H Q=>∃l xs,x=.ref l/\vs=[]/\H l=some (.lst xs)/\Q .non (upd H l (.lst xs.reverse))
theorem Dg:MtM X "list.reverse" JR:=by
 intro pins s σ H x vs v Y Q I O U h
 obtain ⟨l,xs,rfl,rfl,J,q⟩:=h
 cases O
 have D:=U.zero
 subst D
 obtain ⟨z,B,n,r,Z,e⟩:=I.Ac J
 refine xa F.slot_list_reverse ⟨_,e,rfl⟩ F.entry_list_reverse (F.args_list_reverse_1 _) (AutoSeq1.list_reverse_list_0 l B.toArray n (by rw [zG];omega)) ⟨e,?_⟩
 refine ⟨.non,_,I.QC (its':=B.reverse) J e (by simp) r.reverse ?_,rfl,q⟩
 rw [yP]
 omega
def adl:R2:=λx y H Q=>∃l b xs zs,x=.ref l/\y=.ref b/\H l=some (.lst xs)/\H b=some (.lst zs)/\xs.length+zs.length<=sizeLine/\∀p,H p=none->Q (.ref p) (upd H p (.lst (xs++zs)))
theorem V7:iB X (binaryOp .Add) adl:=by
 intro pins s σ H x y v u Q I O J h
 obtain ⟨l,b,xs,zs,rfl,rfl,Z,hB,hz,q⟩:=h
 cases O
 cases J
 obtain ⟨z,D,n,r,hl,e⟩:=I.Ac Z
 obtain ⟨z2,B,n2,U,Y,e2⟩:=I.Ac hB
 refine PySem.P.add_list e e2 ?_ (by rw [zG,zG];omega)
 have ea:D.toArray++B.toArray=(D++B).toArray:=by simp
 rw [ea]
 exact ⟨.ref _,_,I.ZZ (t':=s.toks) (r.append U) (by rw [zj];omega),rfl,q _ I.fresh⟩
def adn:R2:=λx y H Q=>∃l k xs,x=.ref l/\y=.int k/\H l=some (.lst xs)/\-(2 ^ 63)<=k/\k<2 ^ 63/\xs.length * k.toNat<=sizeLine /\
 ∀p,H p=none->Q (.ref p) (upd H p (.lst (List.replicate k.toNat xs).flatten))
theorem len_rep {α:Type} (xs:List α) (k:Nat):(List.replicate k xs).flatten.length=k * xs.length:=by
 induction k with
 | zero=>simp
 | succ k ih=>rw [zT,yX,zj,ih,Nat.succ_mul,Nat.add_comm]
theorem V8:iB X (binaryOp .Mult) adn:=by
 intro pins s σ H x y v u Q I rx ry h
 obtain ⟨l,k,xs,rfl,rfl,hH,h1,h2,hz,q⟩:=h
 cases rx
 obtain ⟨t,rfl⟩:=ry
 obtain ⟨z,B,n,r,hl,e⟩:=I.Ac hH
 have O:B.toArray.size * k.toNat<=sizeLine:=by rw [zG,<-hl];exact hz
 have Z:¬B.toArray.size * k.toNat > (2 ^ 63 - 1) / 8:=by
  have:(sizeLine:Nat)<=(2 ^ 63 - 1) / 8:=by decide
  omega
 have Y:¬(!Builtin.List.listFitsIndex k)=true:=by
  rw [fitsIndex_both h1 h2]
  exact ym
 have D:¬Builtin.List.listTooLong (B.toArray.size * k.toNat)=true:=by
  rw [Ad O]
  exact ym
 have J:List.foldl (λx1 x2=>x1++x2) #[] (List.replicate (if B.toArray.isEmpty=true then 0 else k.toNat) B.toArray)=(List.replicate k.toNat B).flatten.toArray:=by
  have f0:∀m:Nat,List.foldl (λx1 x2=>x1++x2) #[] (List.replicate m B.toArray)=(List.replicate m B).flatten.toArray:=λm=>by
   have:=foldl_rep B m []
   rw [xy] at this
   exact this
  rw [f0]
  cases B with
  | nil=>simp
  | cons a r'=>rw [zi (by simp)]
 refine wpAny_binaryOp_repeat_ref (T:="list") (U:="int") (by decide) ⟨_,e,rfl⟩ (λs'=>typeIs_int s' k t) noFill_list_mul F.fills_int_mul F.slot_int_rmul repeat_list F.slot_int_index.lookup
  (xa F.slot_int_rmul (typeIs_int s k t) F.entry_int_rmul (F.args_int_rmul_2 _ _) (int___rmul___int_list k t l B.toArray n)
   ⟨e,rfl,⟨_,e,rfl⟩,xa F.slot_list_mul ⟨_,e,rfl⟩ F.entry_list_mul (F.args_list_mul_2 _ _) (AutoListH.list___mul___list_int_3 l B.toArray n k t Y Z D) ⟨e,?_⟩⟩)
 rw [J]
 exact ⟨.ref _,_,I.ZZ (t':=s.toks) (r.rep k.toNat) (by rw [len_rep,Nat.mul_comm];exact hz),rfl,q _ I.fresh⟩
end
end L2
namespace Att
open PySem PySem.W PySem.Calls PyProof.Rows
theorem qg:∀(ns:List Int) (vs:List Value),WellAll P h vs (ns.map WData.int)->IntsAre vs ns:=by
 intro ns
 induction ns with
 | nil=>
  intro vs w
  rw [List.map_nil] at w
  cases w
  exact .nil
 | cons n ns ih=>
  intro vs w
  rw [yu] at w
  cases w with
  | cons a b=>
   cases a
   exact .cons _ _ (ih _ b)
theorem HN {l:OpenLaw} (Y:l.most=some n) {h:Heap}
  (z:l.row.toRowW.claim.pre args=true) (J:WellAll P h vals args) :
  ∃a vs ns,vals=[Value.ref a]/\args=[WData.list (ns.map WData.int)]/\h.get? a=some { cls:=.type "list",data:=.seq vs.toArray }/\IntsAre vs ns/\ns.length<=n:=by
 have O:WShape.hasAll [] args [.list .int]=true:=(pre_splitW z).1
 have U:l.pre.holds [] { args:=args }=true:=(pre_splitW z).2
 obtain ⟨d,r,rfl,h1,h2⟩:=hasAllW_cons O
 obtain rfl:=hasAllW_nil h2
 obtain ⟨xs,rfl,Z⟩:=hasW_list h1
 obtain ⟨ns,rfl⟩:=items_int Z
 have B:ns.length<=n:=by
  unfold OpenLaw.pre at U
  have I:(WTm.not (.lt (.lit (.int (n:Int))) (.len (.arg 0)))).holds [] { args:=[.list (ns.map .int)] }=true:=by
   have I:=(holds_andW U).1
   rw [Y] at I
   exact I
  have D:=condW_of I (w_not (w_lt w_lit (w_len_list (w_arg rfl))))
  rw [zd] at D
  refine xF λq=>?_
  have q':(n:Int)<((ns.length:Nat):Int):=by omega
  first
   | (rw [yj q'] at D;exact absurd D (by decide))
   | (simp at D;omega)
 cases J with
 | cons w1 w2=>
  cases w2
  cases w1 with
  | list ho hall=>exact ⟨_,_,ns,rfl,rfl,ho,qg ns _ hall,B⟩
theorem HQ (l:OpenLaw) (args:List WData):l.row.toRowW.claim.post args (.bool true) args=true:=
 postW_of (r:=l.row.toRowW) (X:=(true == true))
  (show WShape.has [] (.bool true) .bool=true by first|rfl|decide|simp [WShape.has,WShape.arms,WShape.armsAll])
  (show (WTm.eq .res (.lit (.bool true))).value [] { args:=args,res:=some (.bool true),after:=args }=some (.bool (true == true)) from w_eq_bool (w_res rfl) w_lit) rfl
theorem Ae {l:OpenLaw} {d:DefRec}
  (hn:l.most=some n) (hdf:d.params.defaults=[])
  (call:∀(w:World) (s₀ z:Shared) (mg mb:Str->Option Value) (U:Addr) (o:Obj) (Z cd D:Value) (a:Addr) (vs:List Value) (ns:List Int),
   Ground q loose [] XP w s₀ mg mb z.heap->YP w z.heap->
   z.heap.get? U=some o->o.data=.func (docDef d.name d.params d.body d.scope Z cd D)->z.heap.CodeRec cd d.name->mg d.name=some (.ref U)->
   z.heap.get? a=some { cls:=.type "list",data:=.seq vs.toArray }->IntsAre vs ns->ns.length<=n->z.gens=#[]->
   codeAny (model l.prog w) callerA (.call (.ref U) ⟨[.ref a],[]⟩) (λr s'=>r=.ok (.ret (.bool true))/\OldK z.heap s'.heap/\s'.os=z.os/\AllBare s'.gens) z) :
  WalkO q loose XP YP l.row.toRowW d [] (λf vs=>PySem.call f vs):=by
 intro w s₀ z mg mb G Y U o Z cd D dV kV ho hd hcd hD hmg hg args vals as I hlay hrd hwl hlo
 obtain rfl:dV=.none:=Dflts.none hD hdf
 obtain rfl:kV=.none:=Dflts.noKw hD
 obtain ⟨a,vs,ns,rfl,rfl,J,B,O⟩:=HN hn I hwl
 refine enter_call (codeAny_mono (call w s₀ z mg mb U o Z cd D a vs ns G Y ho (fd_plain hd) hcd hmg J B O hg) λr s' hq=>?_)
 obtain ⟨rfl,h2,h3,h4⟩:=hq
 exact ⟨.inl ⟨.bool true,.bool true,[],rfl,λ_=>rfl,.bool true,HQ l _,λ_=>⟨List.Pairwise.nil,λ_ hm=>(nomatch hm)⟩⟩,h2,h3,h4⟩
end Att
namespace L2
open PySem PySem.Spec PyProof.Rows
theorem uz:∀{vs:List Value} {ns:List Int},IntsAre vs ns->Vals (ns.map V.int) vs
 | _,_,.nil=>.nil
 | _,_,.cons n t h=>.cons ⟨t,rfl⟩ (uz h)
def Only (H:Hp):Prop:=∀b,H b=none\/∃o xs,H b=some (.Cw o (.lst xs))
theorem JS {P:Program} {w:World} {K:PySem.W.Frag} {mg mb:Str->Option Value} {CX:Hz} {k:Nat} {fa a:Addr} {fd:FuncData} {x:Str} {sp:Sp} {s₁:Shared} {vs:List Value} {ns:List Int}
  (KX:K.In s₁.heap) (hns:s₁.heap.Ns mainGlobals mg) (D:s₁.heap.Ns builtinsNs mb) (hbb:∀x:Str,x≠"__name__"->mb x=bootBuiltins x) (hlim:s₁.heap.NoLimit) (hg:s₁.gens=#[])
  (ha:s₁.heap.get? a=some { cls:=.type "list",data:=.seq vs.toArray }) (hi:IntsAre vs ns) (hl:ns.length<=sizeLine) (hr:bR k callerA)
  (F:∀base:Heap,K.In base->base.Ns mainGlobals mg->bY P w K mg base CX k fa fd [x] sp) (O:∀(s:Shared) (u:Value),BindsTo s fd ⟨[u],[]⟩ [(x,u)])
  (hsp:∀H:Hp,Only H->jr K H a (ns.map V.int)->sp [.ref a] H (λv _=>v=.bl true) λ_ _ _=>False)
  (hCX:∀H e s',CX [] H s₁ (λ_ _ _=>False) e s'->False) :
  codeAny (model P w) callerA (.call (.ref fa) ⟨[.ref a],[]⟩) (λr s'=>r=.ok (.ret (.bool true))/\OldK s₁.heap s'.heap/\s'.os=s₁.os/\AllBare s'.gens) s₁:=by
 have rv:=uz hi
 have Y:=hi.length
 -- from an abstract heap in which nothing but the script may be tracked
 have J:∀H:Hp,Only H->jr K H a (ns.map V.int)->jO P w H s₁.heap->(∀b,H b≠none->b=a)->(H a≠none->K.lookup a=none)->
   codeAny (model P w) callerA (.call (.ref fa) ⟨[.ref a],[]⟩) (λr s'=>r=.ok (.ret (.bool true))/\OldK s₁.heap s'.heap/\s'.os=s₁.os/\AllBare s'.gens) s₁:=by
  intro H hO hS hok hA hK
  have B:∀{b:Addr} {o:Obj},s₁.heap.get? b=some o->H b=none->(uX s₁.heap H).get? b=some o:=λe n=>Jp e n
  have noA:∀{b:Addr} {o:Obj} {es:Array DictEntry} {ep:Nat},s₁.heap.get? b=some o->o.data=.dict es ep->H b=none:=λ{b o es ep} e d=>by
   cases q:H b with
   | none=>rfl
   | some u=>
    have e':b=a:=hA b (by rw [q];simp)
    subst e'
    rw [ha] at e;cases e
    have d':Data.seq vs.toArray _=Data.dict es ep:=d
    cases d'
  have I:∀{b:Addr} {m:Str->Option Value},s₁.heap.Ns b m->(uX s₁.heap H).Ns b m:=λ{b m} ⟨o,es,ep,e,d,r⟩=>⟨o,es,ep,B e (noA e d),d,r⟩
  have hKb:K.In (uX s₁.heap H):=λb o e=>B (KX b o e) (by
   cases q:H b with
   | none=>rfl
   | some u=>
    have e':b=a:=hA b (by rw [q];simp)
    subst e'
    rw [hK (by rw [q];simp)] at e;cases e)
  have hM:Mod K mg (uX s₁.heap H):=⟨hKb,I hns,⟨mb,I D,hbb⟩,let ⟨mc,h1,h2⟩:=hlim;⟨mc,I h1,h2⟩⟩
  have e0:C_ P w K mg (uX s₁.heap H) callerA [] s₁ H:=⟨rfl,hM,λb o e=>Qf e,Nat.le_of_eq (Hf _ _),trivial,λb D=>absurd (show b∈([]:List Addr) from D) (by simp),hok,.of_eq hg⟩
  refine codeAny_mono ((F _ hKb (I hns)).run callerA [] s₁ H ⟨[.ref a],[]⟩ [.ref a] [.ref a] _ _ hr e0 (O s₁ (.ref a)) (.cons rfl .nil) (hsp H hO hS)) λr s' h=>?_
  cases r with
  | error e=>exact (hCX H e s' h).elim
  | ok fl=>
   cases fl with
   | next=>exact False.elim h
   | brk=>exact False.elim h
   | cont=>exact False.elim h
   | ret u=>
    obtain ⟨v,H',os,bare,un,Z,r',q⟩:=h
    have q':v=.bl true:=q
    subst q'
    obtain rfl:u=Value.bool true:=r'
    refine ⟨rfl,OldK.of_keep λb o e=>?_,os,bare⟩
    cases q:H b with
    | none=>exact un.keep b o e q (by intro z;exact absurd (show b∈([]:List Addr) from z) (by simp)) (by simp)
    | some u=>
     rcases hO b with z|⟨ob,xs,z⟩
     ·rw [q] at z;cases z
     ·have z2:=un.qe b ob _ z
      obtain ⟨e1,_⟩:=hok b _ z
      obtain ⟨e2,_⟩:=Z b _ z2
      rw [e] at e1;cases e1
      exact e2
 cases hk:K.lookup a with
 | some o=>
  -- the script is one of the module's own objects
  have e:=KX a o hk
  rw [ha] at e
  cases e
  refine J (λ_=>none) (λ_=>.inl rfl) (.inr ⟨_,vs.toArray,_,hk,rfl,rfl,rfl,by rw [zG,Y];exact hl,by simpa using rv⟩) (λb u z=>by have U:(none:Option HO)=some u:=z;cases U) (λb z=>absurd rfl z) λz=>absurd rfl z
 | none=>
  refine J (λb=>if b=a then some (.Cw { cls:=.type "list",data:=.seq vs.toArray } (.lst (ns.map V.int))) else none) (λb=>?_) (.inl (.inr ⟨{ cls:=.type "list",data:=.seq vs.toArray },zm rfl⟩)) (λb u z=>?_) (λb z=>?_) λ_=>hk
  ·by_cases D:b=a
   ·exact .inr ⟨_,_,zm D⟩
   ·exact .inl (zi D)
  ·by_cases D:b=a
   ·have U:=(zm D).symm.trans z
    cases U
    subst D
    exact ⟨ha,by rw [zd];exact hl,vs,_,rv,ha⟩
   ·have U:=(zi D).symm.trans z
    cases U
  ·by_cases D:b=a
   ·exact D
   ·exact absurd (zi D) z
theorem Ft {l:PySem.W.OpenLaw} {n k:Nat} {q:Program} {B:List Str} {XP:(Str->Option Value)->Heap->Prop} {YP:World->Heap->Prop} {d:DefRec} {K:Params->PySem.W.Frag} {CX:World->Hz} {sp:World->Sp} {x:Str}
  (hn:l.most=some n) (Z:n<=sizeLine) (hdf:d.params.defaults=[]) (hr:bR k callerA)
  (hY:∀(w:World) (h:Heap),YP w h->(K w.params).In h)
  (F:∀(w:World) (mg:Str->Option Value) (O:Addr) (h:Heap),(K w.params).In h->h.Ns mainGlobals mg->mg d.name=some (.ref O)->
   ∃fd:FuncData,(∀(s:Shared) (u:Value),BindsTo s fd ⟨[u],[]⟩ [(x,u)]) /\
    ∀base:Heap,(K w.params).In base->base.Ns mainGlobals mg->bY l.prog w (K w.params) mg base (CX w) k O fd [x] (sp w))
  (U:∀(w:World) (H:Hp) (a:Addr) (ns:List Int),ns.length<=n->Only H->jr (K w.params) H a (ns.map V.int)->sp w [.ref a] H (λv _=>v=.bl true) λ_ _ _=>False)
  (hCX:∀(w:World) (H:Hp) (s:Shared) (e:Value) (s':Shared),CX w [] H s (λ_ _ _=>False) e s'->False) :
  PySem.W.WalkO q B XP YP l.row.toRowW d [] (λf vs=>PySem.call f vs):=by
 refine Att.Ae hn hdf λw s₀ I mg mb O o pm cd doc a vs ns G Y ho hd hcd hmg J D z hg=>?_
 have KX:=hY w _ Y
 obtain ⟨fd,hb,hF⟩:=F w mg O _ KX G.T.g hmg
 exact JS KX G.T.g G.T.b G.T.builtins G.T.nolimit hg J D (zQ z Z) hr hF hb (λH hO hS=>U w H a ns z hO hS) λH e s'=>hCX w H I e s'
end L2
/- THE LAST THEOREM (shape;LID,My.* are af1):
  My.Adr: a structure of the addresses that your layer names (classes,functions);My.Txt K t: a structure (Prop) of the equations over K;
  My.V9:{K} {implicit addresses ..} (e1:nsIn K mainGlobals "law"=some (some (.ref f))) (e2:K.lookup f=some ⟨oc,od,.func (fnOf "law" "law" params body scope dV kV doc pm an cdv ct),sl⟩) (e3:codeIn K cdv "law"=true) ..:∃t,My.Txt K t
set_option maxRecDepth 100000 in
set_option maxHeartbeats 0 in
theorem PySem.Challenge.cw_LID_holds : PySem.Challenge.rw_LID.Holds := by
 w_on;o_law;k_head;(case hw=>w_witness2)
 k_fill
 refine L2.Ft (l:=PySem.Challenge.rw_LID) (n:=63) (k:=40) (x:="script") (CX:=λw=>..) (sp:=λ_=>My.adp) rfl (by decide) rfl ⟨rfl,by decide,by decide⟩ (λw h Y=>PySem.W.kIn_of Y) ?F ?S ?C
 case F=>
  intro w mg fa h KX G hmg
  have T:∃t,My.Txt (L2.KOf KX) t:=by
   dsimp only [L2.KOf]                          -- K must stand as «<heap const> w.params» for k_is
   refine' My.V9 ?e1 ?e2 ?e3 ..
   (case e1=>PySem.W.k_is)                    -- in the order: a name -> its address -> its object -> its parts
   (case e2=>PySem.W.k_is)
   ..
  obtain ⟨t,T⟩:=T
  have e0:=hmg.symm.trans (PySem.W.mg_of KX G T.law)
  cases e0                                       -- fa is the law's own address
  exact ⟨_,λs u=>.of_eq rfl,λbase kb nb=>My.V_ T kb nb⟩     -- if «.of_eq rfl» comes too early: refine' ⟨_,?b,λbase kb nb=>My.V_ T kb nb⟩;exact λs u=>.of_eq rfl
 case S=>exact λw H a ns hl hO hS=>..
 case C=>exact ..
(the tactic k_is has no namespace: write k_is) -/
namespace L2
open PySem PySem.Spec PyProof.Rows
def kW (s:Stmt):Arguments:=match s with
 | .FunctionDef _ a _ _ _ _ _ _ _ _=>a
 | _=>{ posonlyargs:=[],args:=[],vararg:=none,kwonlyargs:=[],kw_defaults:=[],kwarg:=none,defaults:=[] }
def dR (s:Stmt):List Stmt:=match s with
 | .FunctionDef _ _ b _ _ _ _ _ _ _=>b
 | _=>[]
def aa (s:Stmt):Scope:=match s with
 | .FunctionDef _ _ _ _ _ _ sc _ _ _=>sc
 | _=>{ kind:=.function,names:=[],isGenerator:=false,isCoroutine:=false }
abbrev m8:Hz:=λ_ _ _ _ _ _=>False
abbrev E0:XK:=λ_ _ _=>False
theorem Af {X:Cx}:Passes m8 X E0:=λ_ _ _ _ _ _ _ h=>h.elim
structure tZ (K:PySem.W.Frag) (x qual:Str) (st:Stmt) (f:Addr) (fd:FuncData):Prop where
 ex:∃(oc:Value) (od:Option Addr) (kV doc pm:Value) (an:Option Addr) (cdv ct:Value) (osl:Array (Option Value)),
  fd=PySem.W.fnOf x qual (kW st) (dR st) (aa st) .none kV doc pm an cdv ct/\K.lookup f=some ⟨oc,od,.func fd,osl⟩/\PySem.W.codeIn K cdv qual=true
 kp:PySem.W.keepIn K (.ref f)=true
section
variable {P:Program} {w:World} {K:PySem.W.Frag} {mg:Str->Option Value} {base:Heap}
theorem tZ.ok {x n:Str} {st:Stmt} {f:Addr} {fd:FuncData} {N ps:List Str} {k:Nat} {sp:Sp} (F:tZ K x n st f fd) (S:au N ps (aa st)) (len:∀vs H Q E,sp vs H Q E->vs.length=ps.length)
  (B:∀(z:Value) (A:Around) (outer:List Env) (s:Shared) (H:Hp) (vs:List V) (Q:VK) (E:XK),bR k (A.deeper (envOfC n (aa st) s.heap.objs.size f z))->sp vs H Q E->
   ∃t,gO (fK m8 P w K mg base N n (aa st) f z A outer s H E).Tp (dR st) t/\t { nx:=λ_ H'=>Q .non H',rt:=Q } (start N vs) H):bY P w K mg base m8 (k+1) f fd ps sp:=by
 obtain ⟨oc,Z,kV,U,Y,an,z,ct,J,rfl,lk,I⟩:=F.ex
 refine TJ lk I S len λA outer s H vs Q E O D=>?_
 obtain ⟨t,h,q⟩:=B z A outer s H vs Q E O D
 exact ⟨t,h.Tp,q⟩
theorem tZ.binds {x n:Str} {st:Stmt} {f:Addr} {fd:FuncData} {ps:List Str} (F:tZ K x n st f fd)
  (h:∀(kV z D:Value) (I:Option Addr) (B ct:Value) (us:List Value),us.length=ps.length->bindArgs (PySem.W.fnOf x n (kW st) (dR st) (aa st) .none kV z D I B ct) ⟨us,[]⟩=pure (ps.zip us)):Binds K fd ps []:=by
 obtain ⟨Y,U,kV,z,D,I,B,ct,J,rfl,lk,O⟩:=F.ex
 exact .all (h kV z D I B ct)
theorem l_ {x n:Str} {st:Stmt} {f:Addr} {U:Value} {O J:Option Addr} {D:Array (Option Value)} {kV B I z ct:Value} (l:K.lookup f=some ⟨U,O,.func (PySem.W.fnOf x n (kW st) (dR st) (aa st) .none kV B I J z ct),D⟩)
  (c:PySem.W.codeIn K z n=true) (k:PySem.W.keepIn K (.ref f)=true):tZ K x n st f (PySem.W.fnOf x n (kW st) (dR st) (aa st) .none kV B I J z ct):=⟨⟨U,O,kV,B,I,J,z,ct,D,rfl,l,c⟩,k⟩
end
section
variable {X:Cx}
theorem pv (i:Nat) {x:Str} {pos:Pos} (hN:X.N[i]? = some x:=by rfl) (z:Y_ X.env.scope x:=by first|exact Or.inl rfl|exact Or.inr (Or.inl rfl)|exact Or.inr (Or.inr rfl)) (hd:(x == ("__debug__":Str))=false:=by decide)
  (n:(x == ("__classdict__":Str))=false:=by decide):PE X (.Name x pos) (xR i):=Vk hN z hd n
end
theorem eX {c A B:Prop} [Decidable c] (z:c->A) (n:¬c->B):if c then A else B:=by
 by_cases h:c
 ·rw [zm h]
  exact z h
 ·rw [zi h]
  exact n h
def aX (H n:Hp):Prop:=∀b o,H b=some o->n b=some o
theorem aX.refl (H:Hp):aX H H:=λ_ _ h=>h
theorem aX.trans {H n H2:Hp} (a:aX H n) (b:aX n H2):aX H H2:=λc o h=>b c o (a c o h)
theorem aX.free {H n:Hp} (e:aX H n) {l:Addr} (h:n l=Option.none):H l=Option.none:=by
 cases q:H l with
 | none=>rfl
 | some o=>
  rw [e l o q] at h
  cases h
theorem aX.seq {K:PySem.W.Frag} {H n:Hp} {a:Addr} {xs:List V} (e:aX H n) (h:jr K H a xs):jr K n a xs:=by
 rcases h with (h|⟨o,h⟩)|h
 ·exact .inl (.inl (e _ _ h))
 ·exact .inl (.inr ⟨o,e _ _ h⟩)
 ·exact .inr h
def dm (z:List (Str × Addr)):List (Str × NameKind)->List (Str × Addr)->List (Str × Addr)
 | [],cs=>cs
 | (n,k)::r,cs=>dm z r (if k == .free then (match z.lookup n with|some c=>(n,c)::cs|none=>cs) else cs)
theorem ue {B : Scope} {env : Env} (h : ∀ x ∈ B.names, x.2 = .free → (env.cells.lookup x.1).isSome = true) :
    closureFor B env = pure (dm env.cells B.names []) := by
  have all : ∀ (z : List (Str × NameKind)) (cs : List (Str × Addr)), (∀ x ∈ z, x.2 = .free → (env.cells.lookup x.1).isSome = true) →
      (do let mut ds := cs
          for (name, kind) in z do
            if kind == .free then ds := (name, ← cellOf env name) :: ds
          return ds : Sem (List (Str × Addr))) = pure (dm env.cells z cs) := by
    intro z
    induction z with
    | nil => intro cs _; rfl
    | cons y r ih =>
      intro cs O
      obtain ⟨n, k⟩ := y
      have J := λx Y => O x (zp _ Y)
      simp only [List.forIn_cons]
      cases I : k == NameKind.free with
      | false =>
        have e : dm env.cells ((n, k) :: r) cs = dm env.cells r cs := by
          show dm env.cells r (if k == .free then _ else cs) = _
          rw [I]; rfl
        rw [e, ← ih cs J]
        simp
      | true =>
        have D : k = .free := by simpa using I
        have Z := O (n, k) zo D
        obtain ⟨c, U⟩ := yO.mp Z
        have e : dm env.cells ((n, k) :: r) cs = dm env.cells r ((n, c) :: cs) := by
          show dm env.cells r (if k == .free then (match env.cells.lookup n with | some c => (n, c) :: cs | none => cs) else cs) = _
          rw [I, U]; rfl
        rw [e, ← ih ((n, c) :: cs) J]
        simp [cellOf, U]
  have q := all B.names [] h
  unfold closureFor
  exact q
theorem o6 {z:List (Str × Addr)}:∀{names:List (Str × NameKind)} {cs:List (Str × Addr)} {x:Str} {c:Addr},(dm z names cs).lookup x=some c->
  cs.lookup x=some c\/z.lookup x=some c
 | [],_,_,_,h=>.inl h
 | (n,k)::r,cs,x,c,h=>by
  have q:=o6 (names:=r) (x:=x) (c:=c) h
  rcases q with q|q
  ·cases I:k == NameKind.free with
   | false=>rw [I] at q;exact .inl q
   | true=>
    rw [I] at q
    cases D:z.lookup n with
    | none=>rw [D] at q;exact .inl q
    | some d=>
     rw [D] at q
     simp only [if_true,zV] at q
     cases B:x == n with
     | true=>
      rw [B] at q
      have e:x=n:=by simpa using B
      subst e
      rw [D];exact .inr q
     | false=>rw [B] at q;exact .inl q
  ·exact .inr q
theorem rG {z:List (Str × Addr)}:∀{B:List (Str × NameKind)} {cs:List (Str × Addr)} {x:Str} {c:Addr},cs.lookup x=some c->∃d,(dm z B cs).lookup x=some d
 | [],_,_,c,h=>⟨c,h⟩
 | (n,k)::r,cs,x,c,h=>by
  show ∃d,(dm z r _).lookup x=some d
  have more:∃d,(if k == NameKind.free then (match z.lookup n with|some c=>(n,c)::cs|none=>cs) else cs).lookup x=some d:=by
   cases I:k == NameKind.free with
   | false=>exact ⟨c,h⟩
   | true=>
    cases J:z.lookup n with
    | none=>exact ⟨c,h⟩
    | some d=>
     simp only [if_true,zV]
     cases D:x == n with
     | true=>exact ⟨d,rfl⟩
     | false=>exact ⟨c,h⟩
  obtain ⟨d,hd⟩:=more
  exact rG hd
theorem o7 {z:List (Str × Addr)}:∀{names:List (Str × NameKind)} {cs:List (Str × Addr)} {x:Str},(x,NameKind.free)∈names->(z.lookup x).isSome=true->∃d,(dm z names cs).lookup x=some d
 | (n,k)::r,cs,x,B,hs=>by
  rcases zr.mp B with e|B
  ·cases (e)
   obtain ⟨c,D⟩:=yO.mp hs
   show ∃d,(dm z r _).lookup _=some d
   refine rG (c:=c) ?_
   simp [D]
  ·exact o7 (names:=r) B hs
def bF (X:Cx) (n:Scope) (N:List Str) (C:Addr) (s:Shared) (H:Hp) (z:List Addr):Cx where
 prog:=X.prog
 w:=X.w
 K:=X.K
 mg:=X.mg
 base:=X.base
 A:=X.A
 N:=N
 s₀:=s
 H₀:=H
 env:=compEnvC n (dm X.env.cells n.names []) C X.env
 outer:=X.stack
 stack:=X.stack
 ex:=z
 calm:=true
 fn:=λ_=>false
 pn:=[]
 xe:=λ_ _=>False
structure a_ (X:Cx) (scope:Scope) (N:List Str) (k:Nat):Prop where
 kind:scope.kind=.function
 rH:∀y∈scope.names,y.2≠.cell
 nd:N.Nodup
 len:N.length=k+X.N.length
 loc:∀x∈scope.names,x.2=.local->scope.names.lookup x.1=some .local
 free:∀x∈scope.names,x.2=.free->X.env.kindOf x.1=some .cell\/X.env.kindOf x.1=some .free
 own:∀i x,i<k->N[i]? = some x->scope.names.lookup x=some .local
 out:∀i x,N[k+i]? = some x->(scope.names.lookup x).isSome=true->X.N[i]? = some x/\scope.names.lookup x=some .free\/scope.names.lookup x=some .globalImplicit
def adq:TT:=λ_ H k=>k true H
def o8 {α:Type} (ho:α->HO) (len:α->Nat) (I:α) (ta:α->St->Hp->(α->Hp->Prop)->Prop) (k:Nat) (Y:TI) (g:TG) (Z:TT):TE:=λσ H Q=>Y σ H λJ H1=>∃W:Nat->Nat->α->St->Hp->Prop,(∃m,W 0 m I (List.replicate k none++σ) H1) /\
 ∀i m ys z H',W i m ys z H'->
  (J.stop i H'/\∀D,H' D=none->Q (.ref D) (upd H' D (ho ys))) \/
  (J.go i H'/\len ys<sizeLine/\∃N:α->St->Hp->Prop,(∀zs σ' B,N zs σ' B->∃O,O<m/\W (i+1) O zs σ' B) /\
   ∀x H2,J.Tq i H' x H2->g x z H2 λn H3=>Z n H3 λb U=>if b=true then ta ys n U λzs H5=>N zs n H5 else N ys n U)
abbrev Z0 (B:TE) (z:List V) (n:St) (H:Hp) (Q:List V->Hp->Prop):Prop:=B n H λy D=>Q (z++[y]) D
def Ag (k:Nat) (n:TI) (g:TG) (z:TT) (B:TE):TE:=o8 HO.lst List.length [] (Z0 B) k n g z
theorem g8 {env:Env}:∀{z:List (Str × NameKind)} {x:Str} {k:NameKind},z.lookup x=some k->
  (z.map λ(n,k)=>if (k == NameKind.free && env.scope.kind == .function && env.kindOf n == some .cell) then (n,NameKind.cell) else (n,k)).lookup x
   = some (if (k == NameKind.free && env.scope.kind == .function && env.kindOf x == some .cell) then NameKind.cell else k)
 | [],_,_,h=>by simp at h
 | (n,k)::r,x,k',h=>by
  have I:=@g8 env r x k'
  show List.lookup x ((if (k == NameKind.free && env.scope.kind == .function && env.kindOf n == some .cell)=true then (n,NameKind.cell) else (n,k))::_)=_
  cases D:x == n with
  | true=>
   simp only [zV,D] at h
   cases h
   have e:x=n:=by simpa using D
   subst e
   by_cases B:(k == NameKind.free && env.scope.kind == .function && env.kindOf x == some .cell)=true
   ·rw [zm B,zm B];simp [zV]
   ·rw [zi B,zi B];simp [zV]
  | false=>
   simp only [zV,D] at h
   by_cases B:(k == NameKind.free && env.scope.kind == .function && env.kindOf n == some .cell)=true
   ·rw [zm B];simp only [zV,D];exact I h
   ·rw [zi B];simp only [zV,D];exact I h
theorem dX {env:Env}:∀{z:List (Str × NameKind)} {x:Str},z.lookup x=none->
  (z.map λ(n,k)=>if (k == NameKind.free && env.scope.kind == .function && env.kindOf n == some .cell) then (n,NameKind.cell) else (n,k)).lookup x=none
 | [],_,_=>rfl
 | (n,k)::r,x,h=>by
  have D:=@dX env r x
  show List.lookup x ((if (k == NameKind.free && env.scope.kind == .function && env.kindOf n == some .cell)=true then (n,NameKind.cell) else (n,k))::_)=_
  cases B:x == n with
  | true=>
   simp only [zV,B] at h
   cases h
  | false=>
   simp only [zV,B] at h
   by_cases I:(k == NameKind.free && env.scope.kind == .function && env.kindOf n == some .cell)=true
   ·rw [zm I];simp only [zV,B];exact D h
   ·rw [zi I];simp only [zV,B];exact D h
def xK (X:Cx) (n:List Expr) (t:TT):Prop:=
 ∀(pins:List (Addr × Obj)) (s:Shared) (σ:St) (H:Hp) (Q:Bool->Hp->Prop),Inv X pins σ H s->t σ H Q->
  wpAny (model X.prog X.w) X.A (forIn n true λc r=>if r=true then do let ok <-isTrue c X.env (eval c X.env);pure (ForInStep.yield ok) else pure (ForInStep.yield r)) (TP X pins σ Q) X.xe s
theorem QH:xK X [] adq:=λ_ _ _ H _ I h=>wpAny_tests_nil ⟨H,I,h⟩
theorem QJ (h:PT X c t):xK X [c] t:=λpins s σ H Q I n=>wpAny_tests_one (h pins s σ H Q I n)
section
variable {X:Cx} {scope:Scope} {N:List Str} {k:Nat} {pins:List (Addr × Obj)} {σ:St} {H:Hp} {s:Shared} {fp:List Addr}
theorem Dh {h:Heap} {D:Addr} {Z:Obj} (S:a_ X scope N k) (hc:X.calm=true) (I:Inv X pins σ H s) (hf:∀b∈fp,lU X pins H b) (ho:∀b∈fp,∃o,s.heap.get? b=some o/\∀v,o.data≠.cell v)
  (hC:s.heap.objs.size<C) (hD:D=s.heap.objs.size) (keep:∀b o,s.heap.get? b=some o->h.get? b=some o) (hDo:h.get? D=some Z) (hDc:∀v,Z.data≠.cell v) (hn:h.Ns C (λ_=>none)) :
  Inv (bF X scope N C s H fp) [(D,Z)] (List.replicate k none++σ) H { s with heap:=h,toks:=t' }:=by
 have JT:∀b∈fp,b<s.heap.objs.size:=λb U=>by obtain ⟨o,e,_⟩:=ho b U;exact zF e
 have sub:∀x c,(dm X.env.cells scope.names []).lookup x=some c->X.env.cells.lookup x=some c:=λx c e=>by
  rcases o6 e with z|z
  ·simp at z
  ·exact z
 have adt:∀x c,X.env.cells.lookup x=some c->c<s.heap.objs.size:=λx c e=>by
  obtain ⟨v,q⟩:=I.cell x c e
  exact q.lt
 have n:∀c v,s.heap.IsCell c v->h.IsCell c v:=λc v ⟨o,e,d⟩=>⟨o,keep c o e,d⟩
 refine ⟨⟨I.ok.mod,S.kind,?_,?_,xt hC,λx y c h1 h2=>I.ok.inj x y c (sub x c h1) (sub y c h2),λx hx=>?_,λx c z=>absurd (show false=true from z) ym,λ_=>I.ok.hd hc,I.ok.frames,.inl rfl,λb U=>⟨zK (xf (JT b U) hC),λx c e=>(hf b U).2.c x c (sub x c e)⟩,
   I.bs,zQ I.ok.Hi I.sz,λb o e U=>?_,λb U z=>?_,I.stack,I.qz⟩,rfl,I.bare,Un.kept keep,⟨_,hn,λi x v e1 e2 e3=>?_⟩,λx c e=>?_,I.hok.fresh (xt hC),λx c e=>I.gk x c (sub x c e),λp hp=>?_,I.hok.kept keep,?_⟩
 ·exact I.ok.glob
 ·exact I.ok.blt
 ·-- every Z1 name has its cell
  have J:(relabel scope X.env).names.lookup x=some .cell\/(relabel scope X.env).names.lookup x=some .free:=hx
  cases B:scope.names.lookup x with
  | none=>
   have q:=dX (env:=X.env) B
   unfold relabel at J
   rcases J with z|z<;>(rw [q] at z;cases z)
  | some kd=>
   have q:=g8 (env:=X.env) B
   have Y:=yR B
   have hfr:kd=.free:=by
    by_cases z:kd=.free
    ·exact z
    ·unfold relabel at J
     have z':(kd == NameKind.free)=false:=by simpa using z
     rw [z'] at q
     simp only [Bool.false_and,Bool.false_eq_true,if_false] at q
     rcases J with y|y
     ·rw [q] at y
      have y':kd=.cell:=yg y
      exact absurd y' (S.rH _ Y)
     ·rw [q] at y;exact absurd (yg y) z
   subst hfr
   obtain ⟨c,hc'⟩:=I.ok.has x (S.free _ Y rfl)
   exact o7 Y (by rw [hc'];rfl)
 ·-- the base's records are no iterator's
  rcases (hf b U).2.e with z|z
  ·exact I.ok.t_ b o e z
  ·rw [(I.ok.bs b o e).1] at z;cases z
 ·obtain ⟨_,z1,z2,_⟩:=hf b U
  rcases zr.mp (I.lV b z) with y|y
  ·exact z1 y
  ·exact z2 y
 ·-- the names
  have e1':N[i]? = some x:=e1
  by_cases hi:i<k
  ·rw [zP (by simpa using hi),zU,zm hi] at e2
   cases e2
  ·obtain ⟨j,rfl⟩:∃j,i=k+j:=⟨i - k,by omega⟩
   rw [zZ (by simp),zE,Nat.add_sub_cancel_left] at e2
   have O:(relabel scope X.env).names.lookup x=some .local\/(relabel scope X.env).names.lookup x=some .cell\/(relabel scope X.env).names.lookup x=some .free:=e3
   cases B:scope.names.lookup x with
   | none=>
    have q:=dX (env:=X.env) B
    unfold relabel at O
    rcases O with z|z|z<;>(rw [q] at z;cases z)
   | some kd=>
    have q:=g8 (env:=X.env) B
    rcases S.out j x e1' (by rw [B];rfl) with ⟨o1,o2⟩|o
    ·rw [B] at o2;cases o2
     have Y:=yR B
     have hv:Y_ X.env.scope x:=by
      rcases S.free _ Y rfl with z|z
      ·exact .inr (.inl z)
      ·exact .inr (.inr z)
     obtain ⟨m,hns,hlk⟩:=I.loc
     obtain ⟨u,r,l⟩:=hlk j x v o1 e2 hv
     refine ⟨u,r,.inr ⟨?_,?_⟩⟩
     ·show (relabel scope X.env).names.lookup x=some .cell\/(relabel scope X.env).names.lookup x=some .free
      unfold relabel
      rw [q]
      split
      ·exact .inl rfl
      ·exact .inr rfl
     ·rcases l with ⟨z,_⟩|⟨_,c,e,z⟩
      ·rcases S.free _ Y rfl with y|y<;>(rw [show X.env.kindOf x=some NameKind.local from z] at y;cases y)
      ·obtain ⟨d,hd⟩:=o7 (cs:=[]) Y (by rw [e];rfl)
       have hd':=sub x d hd
       rw [e] at hd';cases hd'
       exact ⟨c,hd,n _ _ z⟩
    ·rw [B] at o;cases o
     simp only [show (NameKind.globalImplicit == NameKind.free)=false from rfl,Bool.false_and,Bool.false_eq_true,if_false] at q
     unfold relabel at O
     rcases O with z|z|z<;>(rw [q] at z;cases z)
 ·obtain ⟨v,q⟩:=I.cell x c (sub x c e)
  exact ⟨v,n _ _ q⟩
 ·have e:p=(D,Z):=by
   have hp':p∈([]:List (Addr × Obj))++[(D,Z)]:=hp
   simpa using hp'
  subst e
  refine ⟨hDo,I.hok.fresh (by rw [hD];exact zx _),?_,λz=>?_,hDc⟩
  ·show D≠C
   rw [hD];exact zK hC
  ·have:=I.lV D z
   rcases zr.mp this with y|y
   ·rw [hD] at y;exact absurd I.lt (by rw [<-y];exact xw _)
   ·exact I.Zm (by rw [hD];exact zx _) y
 ·show (List.replicate k none++σ).length=N.length
  rw [zj,zE,S.len,I.len]
end
section
variable {X:Cx} {scope:Scope} {N:List Str} {k:Nat} {pins:List (Addr × Obj)} {σ:St} {H:Hp} {s:Shared} {fp:List Addr}
theorem rJ {h':Heap} {D C:Addr} {oD:Obj} {σ1:St} {H1:Hp} {Y:Shared} {ob:HO} (I:Inv X pins σ H s) (hf:∀b∈fp,lU X pins H b) (hC:s.heap.objs.size<C) (hD:D=s.heap.objs.size)
  (J:Inv (bF X scope N C s H fp) [(D,oD)] σ1 H1 Y) (hd:∀(H:Hp) (h:Heap),h.get? D=some oD->bN X.prog X.w H h D ob) (Z:Heap.SameBut C Y.heap h'):Inv X pins σ (upd H1 D ob) { Y with heap:=h' }:=by
 obtain ⟨eD,nD,neC,_,_⟩:=J.pin (D,oD) (by simp)
 have B:Un (frs X.stack) fp H H1 s.heap Y.heap:=J.base
 have lt:∀{b:Addr} {o:Obj},s.heap.get? b=some o->b≠C/\b≠D:=λ{b o} e=>⟨zK (xf (zF e) hC),by rw [hD];exact zK (zF e)⟩
 refine I.call' (s':={ Y with heap:=h' }) (ch:=fp) (show Y.os=s.os from J.os) ⟨λb o q n O U=>(Z.2 b (lt q).1).trans (B.keep b o q n O U),λb o q n O U=>?_,λb o q n U=>?_,λb o q U=>?_,λb o xs q=>?_⟩
  ((J.hok.moved (ch:=[C]) (λb O=>zA.mp O▸J.free) λb u O q=>(Z.2 b λz=>O (zA.mpr z)).trans q).track nD (hd _ _ ((Z.2 _ neC).trans eD))) J.bare λb O=>(hf b O).2
 ·obtain ⟨sl,e⟩:=B.slot b o q n O U
  exact ⟨sl,(Z.2 b (lt q).1).trans e⟩
 ·rw [az (lt q).2];exact B.free b o q n U
 ·obtain ⟨o',e⟩:=B.there b o q U
  exact ⟨o',(Z.2 b (lt q).1).trans e⟩
 ·have e:=B.qe b o xs q
  rw [az (bC e nD)];exact e
theorem HR {prog : Program} {w : World} {A : Around} {e tg : Expr} {ifs : List Expr} {p : Pos} {Z : Value} {D : Addr} {O : Sem Unit} {env : Env} {R : Result → Shared → Prop} {s : Shared} (I : Nat → Shared → Prop) (hu : A.under (.compLoop e 0 Z (.ref D) env) = A)
    (ht : (model prog w).den (.compLoop e 0 Z (.ref D) env) = ((do
      standAt p
      match ← pyNext Z with
      | none => pure (.done .next)
      | some v =>
        letOwnedTupleGo tg Z v
        assign tg env v
        let mut ok := true
        for c in ifs do
          if ok then ok ← isTrue c env (eval c env)
        if ok then O
        again (.compLoop e 0 Z (.ref D) env)) : Sem _).onRaise (λx => do noteFrame x env; theTreesLotGoes x))
    (turn : ∀ n s, I n s → wpAny (model prog w) A (pyNext Z) (λr J => match r with
      | none => R (.ok .next) J
      | some v => wpAny (model prog w) A (letOwnedTupleGo tg Z v) (λ_ B => wpAny (model prog w) A (assign tg env v) (λ_ Y =>
          wpAny (model prog w) A (forIn ifs true λc r => if r = true then do let ok ← isTrue c env (eval c env); pure (ForInStep.yield ok) else pure (ForInStep.yield r)) (λok z =>
            if ok = true then wpAny (model prog w) A O (λ_ U => ∃ m, m < n ∧ I m U) (notedBy (model prog w) A env λx s' => R (.error x) s') z
            else ∃ m, m < n ∧ I m z) (notedBy (model prog w) A env λx s' => R (.error x) s') Y) (notedBy (model prog w) A env λx s' => R (.error x) s') B) (notedBy (model prog w) A env λx s' => R (.error x) s') J) (notedBy (model prog w) A env λx s' => R (.error x) s') s)
    (n : Nat) (h : I n s) : codeAny (model prog w) A (.compLoop e 0 Z (.ref D) env) R s := by
  refine codeAny_loop rfl I (λn s hI => ?_) n h
  rw [hu, ht]
  refine wpAny_noted ?_
  refine zh (xx (zh (bu (turn n s hI) λr J h₁ => ?_)))
  cases r with
  | none => exact zC h₁
  | some v =>
    refine zh (bu h₁ λ_ B h₁' => zh (bu h₁' λ_ Y h₂ => zh (bu h₂ λok z h₃ => ?_)))
    cases ok with
    | false => exact zC ⟨rfl, h₃⟩
    | true => exact zh (bu h₃ λ_ U h₄ => zC ⟨rfl, h₄⟩)
def o9 (M:Model) (A:Around) (E:Value->Shared->Prop) (use:Option (Value->Sem Unit)) (Q:Value->Shared->Prop) (z:Value) (n:Env):Result->Shared->Prop
 | .ok f,s'=>compPost M A E use Q z n.locals (.ok f) s'
 | .error x,s'=>∃m,s'.heap.Ns n.locals m/\∀h',Heap.SameBut n.locals s'.heap h'->wpAny M A (passOn "comprehension.variables-let-go" x n:Sem Value) (λ_ _=>False) E { s' with heap:=h' }
theorem HS {s:Shared} {env:Env} {scope:Scope} {g:Comprehension}
  (hcl:clausesOf e=g::gs) (hs:∀x,foldedSetIterable g.iter env x=pure x) (J:closureFor scope env=pure cl) (n:scope.kind=.function) (B:∀x∈scope.names,x.2=.local->scope.names.lookup x.1=some .local)
  (h:wpAny M A fst (λx s1=>wpAny M A (pyIter x) (λit Y=>wpAny M A nw (λz s3=>wpAny M A (newFunctionEnv scope env.globals cl [] env.qual none .none (some env)) (λD s4=>
   codeAny M A (.compStart e 0 it z { D with scope:=relabel scope env }) (o9 M A E use Q z { D with scope:=relabel scope env }) s4) E s3) E Y) E s1) E s):wpAny M A (comprehension e scope env pos nw false fst use) Q E s:=by
 unfold comprehension
 rw [J,hcl]
 refine zh (bu h λx s1 h1=>zh (xx (zh (wpAny_of_eq (hs x) (zh (ya (bu h1 λit Y h2=>?_)))))))
 refine wpAny_standIf (zh (bu h2 λz s3 h3=>zh (zC (zh (bu h3 λD s4 h4=>?_)))))
 dsimp only
 have Z:∀x∈(scope.names.filter λx=>(x.2 == .local || x.2 == .cell) && x.1 != (".0":Str)).reverse,x.2=.local->Env.kindOf { D with scope:=relabel scope env } x.1=some .local:=
  λx hx hl=>lookup_relabel_local (B x (List.mem_filter.mp (yi.mp hx)).1 hl)
 refine ya (zh (wpAny_attempt (ya (wpAny_run (codeAny_mono h4 λr s' I=>?_)))))
 cases r with
 | ok f=>
  cases use with
  | none=>
   obtain ⟨m,U,I⟩:=(show compPost M A E none Q z D.locals (.ok f) s' from I)
   exact zh (ya (wpAny_comp_letGo (cenv:={ D with scope:=relabel scope env }) n _ s' m Z U λh' _ _ O=>zC (I h' O)))
  | some u=>
   refine zh (wpAny_rule (zh (ya (bu (show wpAny M A (u z) _ E s' from I) λ_ Y h2=>?_))))
   obtain ⟨m,U,h2⟩:=h2
   refine zh (wpAny_comp_letGo (cenv:={ D with scope:=relabel scope env }) n _ Y m (λx hx=>?_) U λh' _ _ O=>zC (h2 h' O))
   rcases zN.mp hx with y|y
   ·exact Z x (List.mem_of_mem_drop y)
   ·exact Z x (xl y)
 | error x=>
  obtain ⟨m,U,I⟩:=I
  exact zh (ya (wpAny_comp_letGo (cenv:={ D with scope:=relabel scope env }) n _ s' m Z U λh' _ _ O=>yT (I h' O) (λ_ _ f=>f.elim) λ_ _ y=>y))
abbrev dU (X:Cx) (n:Scope) (N:List Str) (C:Addr) (s:Shared) (H:Hp) (z:List Addr) (E:Value->Shared->Prop):Cx:={ bF X n N C s H z with xe:=E }
theorem Inv.xe {X:Cx} {H:Hp} {s:Shared} (I:Inv { X with xe:=E } pins σ H s):Inv { X with xe:=E' } pins σ H s:=
 ⟨⟨I.ok.mod,I.ok.kind,I.ok.glob,I.ok.blt,I.ok.above,I.ok.inj,I.ok.has,I.ok.cab,I.ok.hd,I.ok.frames,I.ok.stk,I.ok.Vi,I.ok.bs,I.ok.Hi,I.ok.t_,I.ok.uY,I.ok.jP,I.ok.Ji⟩,I.os,I.bare,I.base,I.loc,I.cell,I.free,I.gk,I.pin,I.hok,I.len⟩
def Wa (X:Cx) (n:Scope) (use:Option (Value->Sem Unit)) (Q:Value->Shared->Prop) (C D:Addr):Value->Shared->Prop:=
 notedBy (model X.prog X.w) X.A (compEnvC n (dm X.env.cells n.names []) C X.env) λx s'=>o9 (model X.prog X.w) X.A X.xe use Q (.ref D) (compEnvC n (dm X.env.cells n.names []) C X.env) (.error x) s'
structure JV (P : Program) (w : World) {α : Type} (ho : α → HO) (emp : α) (e tg iter : Expr) (ifs : List Expr) (T : String) (d0 : Data) (tail : Addr → Env → Sem Unit) : Prop where
  cl : clausesOf e = [⟨tg, iter, ifs, 0⟩]
  st : ∀ {A it acc env R s}, codeAny (model P w) A (.compLoop e 0 it acc env) R s → wpAny (model P w) A (pyIter it) (λit' s' => codeAny (model P w) A (.compLoop e 0 it' acc env) R s') (notedBy (model P w) A env λx s' => R (.error x) s') s → codeAny (model P w) A (.compStart e 0 it acc env) R s
  turn : ∀ it D env, ∃ p, (model P w).den (.compLoop e 0 it (.ref D) env) = ((do
      standAt p
      match ← pyNext it with
      | none => pure (.done .next)
      | some v =>
        letOwnedTupleGo tg it v
        assign tg env v
        let mut ok := true
        for c in ifs do
          if ok then ok ← isTrue c env (eval c env)
        if ok then tail D env
        again (.compLoop e 0 it (.ref D) env)) : Sem _).onRaise (λx => do noteFrame x env; theTreesLotGoes x)
  un : ∀ (A : Around) it acc env, A.under (.compLoop e 0 it acc env) = A
  fr : Obj.isFreed { cls := .type T, data := d0 } = false
  ok : sizeOk d0
  c0 : ∀ v, d0 ≠ .cell v
  o0 : ∀ (D : Addr) (H : Hp) (h : Heap), (D == sysModules) = false → h.get? D = some { cls := .type T, data := d0 } → bN P w H h D (ho emp)
inductive Z2 (Y:Cx) (D:Addr) (oD:Obj) (pl:List (Addr × Obj)) (σ:St) {α:Type} (ho:α->HO) (M:α->Hp->Prop) (s2:Shared):Prop
 | mk (zs:α) (o':Obj) (H':Hp) (s1:Shared) (h':Heap) (t':Nat):Inv Y ((D,oD)::pl) σ H' s1->M zs H'->s2={ s1 with heap:=h',toks:=t' }->h'.get? D=some o'->(∀(H:Hp) (h:Heap),h.get? D=some o'->bN Y.prog Y.w H h D (ho zs))->(∀v,o'.data≠.cell v)->
  (∀b o,b≠D->s1.heap.get? b=some o->h'.get? b=some o)->Z2 Y D oD pl σ ho M s2
def QK (Y:Cx) {α:Type} (B:α->HO) (len:α->Nat) (I:α->St->Hp->(α->Hp->Prop)->Prop) (n:Addr->Env->Sem Unit):Prop:=
 ∀(D:Addr) (z:Obj) (pl:List (Addr × Obj)) (σ:St) (H:Hp) (s:Shared) (ys:α) (M:α->Hp->Prop),Inv Y ((D,z)::pl) σ H s->(∀(H:Hp) (h:Heap),h.get? D=some z->bN Y.prog Y.w H h D (B ys))->len ys<sizeLine->I ys σ H M->
  wpAny (model Y.prog Y.w) Y.A (n D Y.env) (λ_ J=>Z2 Y D z pl σ B M J) Y.xe s
theorem o_ {α:Type} {ho:α->HO} {len:α->Nat} {emp:α} {ta:α->St->Hp->(α->Hp->Prop)->Prop} {e iter tg:Expr} {ifs:List Expr} {Wb:Pos} {wi:TI} {g:TG} {tt:TT} {Ty:String} {d0:Data} {tail:Addr->Env->Sem Unit} {use:Option (Value->Sem Unit)} {Qc:Value->Shared->Prop} {Q:VK}
  (B:JV X.prog X.w ho emp e tg iter ifs Ty d0 tail) (S:a_ X scope N k) (hc:X.calm=true) (hi:PI X tg iter wi)
  (hg:∀C s H fp E,PG (dU X scope N C s H fp E) tg g) (ht:∀C s H fp E,xK (dU X scope N C s H fp E) ifs tt) (ha:∀C s H fp,Inv X pins σ H s->(∀b∈fp,lU X pins H b)->s.heap.objs.size<C->QK (dU X scope N C s H fp (Wa X scope use Qc C s.heap.objs.size)) ho len ta tail)
  (hs:∀x,foldedSetIterable iter X.env x=pure x) (I:Inv X pins σ H s) (h:o8 ho len emp ta k wi g tt σ H Q)
  (fin:∀(n:Shared) (H2:Hp) (fp:List Addr) (C:Addr) (σ5:St) (H5:Hp) (s5:Shared) (oD:Obj) (ob:HO),Inv X pins σ H2 n->(∀b∈fp,lU X pins H2 b)->n.heap.objs.size<C->
   Inv (bF X scope N C n H2 fp) [(n.heap.objs.size,oD)] σ5 H5 s5->(∀(H:Hp) (h:Heap),h.get? n.heap.objs.size=some oD->bN X.prog X.w H h n.heap.objs.size ob)->Q (.ref n.heap.objs.size) (upd H5 n.heap.objs.size ob)->
   compPost (model X.prog X.w) X.A X.xe use Qc (.ref n.heap.objs.size) C (.ok .next) s5) :
  wpAny (model X.prog X.w) X.A (comprehension e scope X.env Wb (newObj (.type Ty) d0) false (eval iter X.env) use) Qc X.xe s:=by
 have hclos:closureFor scope X.env=pure (dm X.env.cells scope.names []):=ue λx hx hk=>by
  obtain ⟨c,e⟩:=I.ok.has x.1 (S.free x hx hk)
  rw [e];rfl
 refine HS (use:=use) B.cl hs hclos S.kind S.loc (bu (hi pins s σ H _ I h) λv s1 h1=>bu h1 λitv n h2=>?_)
 obtain ⟨it,fp,tn,J,H2,e,I2,T,st2,f2,W,⟨m0,w0⟩,turn⟩:=h2
 subst e
 have ho2:=T.obj 0 _ st2
 have JT:∀b∈fp,b<n.heap.objs.size:=λb Y=>by obtain ⟨o,e,_⟩:=ho2 b Y;exact zF e
 have big:(n.heap.objs.size == sysModules)=false:=yt.mpr (Ne.symm (zK (xf (by decide) (I2.mod.glob.keeps I2.bk).lt)))
 refine wpAny_newObj_type (wpAny_newFunctionEnv S.rH (by intro y hy;simp at hy) (λh₁ U O=>?_) S.kind) B.ok
 dsimp only at U O ⊢
 generalize hH2:n.heap.push { cls:=.type Ty,dict:=none,data:=d0 }=HH at U O ⊢
 have hC:n.heap.objs.size<HH.objs.size:=by rw [<-hH2,xo];exact Nat.lt_succ_self _
 have old:∀b o,n.heap.get? b=some o->h₁.get? b=some o:=λb o e=>O.extBut b o (zK (xf (zF e) hC)) (zu _ (hH2▸zu _ e))
 have hacc:h₁.get? n.heap.objs.size=some { cls:=.type Ty,data:=d0 }:=O.extBut _ _ (zK hC) (zu _ (hH2▸zD _ B.fr))
 generalize HH.objs.size=C at *
 generalize hD:n.heap.objs.size=D at *
 have hDs:n.heap.objs.size<=D:=Nat.le_of_eq hD
 let X':=dU X scope N C n H2 fp (Wa X scope use Qc C D)
 have sub:∀x c,(dm X.env.cells scope.names []).lookup x=some c->X.env.cells.lookup x=some c:=λx c e=>by
  rcases o6 e with y|y
  ·simp at y
  ·exact y
 have stat:∀{H':Hp} {o:Obj},(∀b∈fp,H' b=none)->∀b∈fp,lU X' [(D,o)] H' b:=λ{H' o} hn b Y=>by
  obtain ⟨z0,z1,z2,z3,z4,z5⟩:=f2 b Y
  refine ⟨hn b Y,zK (xf (JT b Y) hC),λz=>?_,.inl Y,λx c e=>z4 x c (sub x c e),λp hp=>?_⟩
  ·rcases zr.mp (I2.lV b z) with y|y
   ·exact z1 y
   ·exact z2 y
  ·rw [zA.mp (show p∈[(D,o)] from hp)]
   exact Ne.symm (zK (JT b Y))
 have I3:Inv X' [(D,{ cls:=.type Ty,data:=d0 })] (List.replicate k none++σ) H2 { n with heap:=h₁,toks:=n.toks+([]:List (Str × Value)).length }:=
  Inv.xe (Dh S hc I2 f2 ho2 (hD▸hC) hD.symm old hacc B.c0 (by simpa using U))
 have loop:∀s₃:Shared,s₃={ n with heap:=h₁,toks:=n.toks+([]:List (Str × Value)).length }->
   codeAny (model X.prog X.w) X.A (.compLoop e 0 (.ref it) (.ref D) (compEnvC scope (dm X.env.cells scope.names []) C X.env)) (o9 (model X.prog X.w) X.A X.xe use Qc (.ref D) (compEnvC scope (dm X.env.cells scope.names []) C X.env)) s₃:=by
  rintro s₃ rfl
  obtain ⟨p,hturn⟩:=B.turn (.ref it) D (compEnvC scope (dm X.env.cells scope.names []) C X.env)
  refine HR (λm s'=>∃i ys oD σ' H',Inv X' [(D,oD)] σ' H' s'/\(∀(H:Hp) (h:Heap),h.get? D=some oD->bN X.prog X.w H h D (ho ys))/\tn i s'.heap/\(∀b∈fp,H' b=none)/\W i m ys σ' H') (B.un _ _ _ _) hturn ?_ m0
   ⟨0,emp,_,_,H2,I3,λH h e=>B.o0 D H h big e,T.keep _ _ _ st2 λb _ o e=>old b o e,λb Y=>(f2 b Y).1,w0⟩
  rintro m s4 ⟨i,ys,oD,σ4,H4,I4,rv,st4,fr4,w4⟩
  rcases turn i m ys σ4 H4 w4 with ⟨stop,qn⟩|⟨go,hlt,M,hM,step⟩
  ·refine bu (T.done X' rfl rfl rfl rfl i _ s4 σ4 H4 X'.xe I4 (stat fr4) st4 stop) λr s5 zq=>?_
   obtain ⟨hr,I5⟩:=zq
   subst hr
   subst hD
   exact fin n H2 fp C _ _ _ oD _ I2 f2 hC (Inv.xe I5) rv (qn _ (I5.pin (n.heap.objs.size,oD) (by simp)).2.1)
  ·refine bu (T.item X' rfl rfl rfl rfl i _ s4 σ4 H4 X'.xe I4 (stat fr4) st4 go) λr s5 zq=>?_
   obtain ⟨u,hr,h5⟩:=zq
   subst hr
   refine bu h5 λ_ s6 zq=>?_
   obtain ⟨x,H6,I6,r6,y6,st6,fr6⟩:=zq
   have I6':=I6.pinned (stat fr6) (T.obj _ _ st6)
   have back:∀{Z:St} {H7:Hp} {s7:Shared},Inv X' ([(D,oD)]++rE fp s6.heap) Z H7 s7->tn (i+1) s7.heap/\∀b∈fp,H7 b=none:=λ{Z H7 s7} I7=>by
    have pn:∀b∈fp,∀o,s6.heap.get? b=some o->_:=λb Y o e=>I7.pin (b,o) (yz _ (yz _ (lX Y e)))
    refine ⟨T.keep _ _ _ st6 λb Y o e=>(pn b Y o e).1,λb Y=>?_⟩
    obtain ⟨o,e,d⟩:=T.obj _ _ st6 b Y
    exact (pn b Y o e).2.1
   refine bu (hg C n H2 fp _ _ s6 σ4 H6 x u _ I6' r6 (step x H6 y6)) λ_ s7 zq=>?_
   obtain ⟨Z,H7,I7,q7⟩:=zq
   refine bu (ht C n H2 fp _ _ s7 Z H7 _ I7 q7) λb s8 zq=>?_
   obtain ⟨H8,I8,q8⟩:=zq
   cases b with
   | false=>
    rw [zi ym] at q8 ⊢
    obtain ⟨m',hm,w'⟩:=hM _ _ _ q8
    obtain ⟨t8,f8⟩:=back I8
    exact ⟨m',hm,i+1,ys,oD,Z,H8,I8.nF,rv,t8,f8,w'⟩
   | true=>
    rw [zm rfl] at q8 ⊢
    refine bu (hD▸(ha C n H2 fp I2 f2 (hD▸hC)) D oD _ Z H8 s8 ys _ I8 rv hlt q8) λ_ sA zq=>?_
    obtain ⟨zs,o',H9,s9,h',t',I9,q9,rfl,eo,ro,co,kp⟩:=zq
    obtain ⟨t9,f9⟩:=back I9
    obtain ⟨eD,nD,neC,nfD,_⟩:=I9.pin (D,oD) (by simp)
    obtain ⟨m',hm,w'⟩:=hM _ _ _ q9
    refine ⟨m',hm,i+1,zs,o',Z,H9,((I9.qF (Fg:=[]) λp hp=>nomatch hp).turned ⟨nD,neC,nfD,.inr (Heap.get?_none_of_le hDs),λx c e=>?_,λp hp=>nomatch hp⟩ kp).qF λp hp=>?_,ro,T.keep _ _ _ t9 λb Y o e=>kp b o (zK (hD▸JT b Y)) e,f9,w'⟩
    ·obtain ⟨v,zc⟩:=I2.cell x c (sub x c e)
     exact zK (hD▸zc.lt)
    ·rw [zA.mp hp]
     exact ⟨eo,nD,neC,nfD,co⟩
 exact B.st (loop _ rfl) (T.self _ 0 _ _ _ (T.keep _ _ _ st2 λb _ o e=>old b o e) (loop _ rfl))
theorem PE.xe {C:Addr} {E:Value->Shared->Prop} {e:Expr} {t:TE} (h:PE (bF X scope N C s H fp) e t):PE (dU X scope N C s H fp E) e t:=λpins s σ H Q I q=>
 yT (h pins s σ H Q (Inv.xe I) q) (λ_ _ z=>by obtain ⟨v,H',n,r,q⟩:=z;exact ⟨v,H',Inv.xe n,r,q⟩) λ_ _ z=>z.elim
theorem xK.xe {C:Addr} {E:Value->Shared->Prop} {n:List Expr} {t:TT} (h:xK (bF X scope N C s H fp) n t):xK (dU X scope N C s H fp E) n t:=λpins s σ H Q I q=>
 yT (h pins s σ H Q (Inv.xe I) q) (λ_ _ z=>by obtain ⟨H',B,q⟩:=z;exact ⟨H',Inv.xe B,q⟩) λ_ _ z=>z.elim
theorem PG.xe {C:Addr} {E:Value->Shared->Prop} {n:Expr} {t:TG} (h:PG (bF X scope N C s H fp) n t):PG (dU X scope N C s H fp E) n t:=λpins s σ H v u Q I r q=>
 yT (h pins s σ H v u Q (Inv.xe I) r q) (λ_ _ z=>by obtain ⟨σ',H',B,q⟩:=z;exact ⟨σ',H',Inv.xe B,q⟩) λ_ _ z=>z.elim
abbrev Fv (n:Expr) (D:Addr) (env:Env):Sem Unit:=do let _ <-call (.builtin "list.append") [.ref D,<-eval n env]
theorem JW {P:Program} {w:World} {J B O:Expr} {I:List Expr} {n:Scope} {pos:Pos}:JV P w HO.lst [] (.ListComp J [⟨O,B,I,0⟩] n pos) O B I "list" (.seq #[]) (Fv J) where
 cl:=rfl
 st:=codeAny_compStart_list
 turn:=λU D env=>⟨_,yn (Sem.onRaise · λx=>do noteFrame x env;theTreesLotGoes x) (compTurn_list J O B I n pos U (.ref D) env)⟩
 un:=λ_ _ _ _=>rfl
 fr:=rfl
 ok:=by size_fits
 c0:=λv z=>by cases z
 o0:=λD H h _ e=>⟨ye _,[],0,.nil,e⟩
theorem vB {Y:Cx} {J:Expr} {Z:TE} (he:PE Y J Z):QK Y HO.lst List.length (Z0 Z) (Fv J):=by
 intro D oD pl σ H s ys M I hd hz q
 refine zh (bu (he _ s σ H _ I q) λy U zq=>?_)
 obtain ⟨z,H9,I9,r9,q9⟩:=zq
 obtain ⟨O,_⟩:=I9.pin (D,oD) (by simp)
 obtain ⟨_,B,n,rv,e⟩:=hd H9 U.heap O
 obtain rfl:=yg (O.symm.trans e)
 refine zh (xa F.slot_list_append ⟨_,O,rfl⟩ F.entry_list_append (F.args_list_append_2 _ _) (PySem.list_append D B.toArray n y (by rw [zG,<-rv.length];omega)) ⟨O,zC ?_⟩)
 have q:=PySem.IsL.update O (λa=>a.push y)
 rw [show (B.toArray.push y)=(B++[y]).toArray by simp] at q
 exact ⟨ys++[z],_,H9,U,_,U.toks,I9,q9,rfl,q,λH h e=>⟨by rw [zj,yd];omega,B++[y],_,rv.append (.cons r9 .nil),e⟩,(λv w=>by cases w),λb o hb e=>(yS U.heap _ (Ne.symm hb)).trans e⟩
theorem QM {n:Expr} (S:a_ X scope N k) (hc:X.calm=true) (hi:PI X tg iter wi)
  (Z:∀C s H fp,PG (bF X scope N C s H fp) tg g) (U:∀C s H fp,xK (bF X scope N C s H fp) ifs tt) (he:∀C s H fp,PE (bF X scope N C s H fp) n te)
  (Y:∀x,foldedSetIterable iter X.env x=pure x:=by intro _;rfl):PE X (.ListComp n [⟨tg,iter,ifs,0⟩] scope pos) (Ag k wi g tt te):=by
 intro pins s σ H Q I h
 rw [eval_ListComp]
 refine o_ JW S hc hi (λC s H fp _=>(Z C s H fp).xe) (λC s H fp _=>(U C s H fp).xe) (λC s H fp _ _ _=>vB (he C s H fp).xe) Y I h λO H2 fp C D H5 s5 oD ob I2 f2 hC B hd q=>?_
 obtain ⟨mC,z,_⟩:=B.loc
 exact ⟨mC,z,λh' J=>⟨.ref O.heap.objs.size,_,rJ I2 f2 hC rfl B hd J,rfl,q⟩⟩
theorem pY {α:Type} {Z:α->HO} {len:α->Nat} {emp:α} {ta:α->St->Hp->(α->Hp->Prop)->Prop} {i:Nat} {x:Str} {e n tg:Expr} {Y:List Expr} {pos z Wb:Pos} {wi:TI} {g:TG} {tt:TT} {Ty:String} {d0:Data} {O:Addr->Env->Sem Unit}
  (B:JV X.prog X.w Z emp e tg n Y Ty d0 O) (adv:∀u,evalThenUse e X.env u=(comprehension e scope X.env Wb (newObj (.type Ty) d0) false (eval n X.env) (some u) >>= λ_=>pure ())) (hN:X.N.Nodup) (hi':X.N[i]? = some x) (hx:Loc X.env.scope x)
  (S:a_ X scope N k) (hc:X.calm=true) (hi:PI X tg n wi) (hg:∀C s H fp,PG (bF X scope N C s H fp) tg g) (ht:∀C s H fp,xK (bF X scope N C s H fp) Y tt) (ha:∀C s H fp E,QK (dU X scope N C s H fp E) Z len ta O)
  (hsw:swapsWith e (some (.Name x z)) pos.line X.env=pure true) (hs:∀x,foldedSetIterable n X.env x=pure x) (hf:X.fn x=true\/X.env.scope.names.lookup x=some .local) :
  PS X (.Assign [.Name x z] e pos) (Jv (o8 Z len emp ta k wi g tt) (xW i)):=by
 intro pins s σ H D I h
 rw [exec_Assign_Name_used _ _ _ _ hsw]
 refine zh (xx (zh ?_))
 rw [adv]
 refine zh (o_ (Qc:=λ_ s'=>wpAny (model X.prog X.w) X.A (pure ()) (λ_ s''=>wpAny (model X.prog X.w) X.A (pure Flow.next) (SP X pins D) X.xe s'') X.xe s') B S hc hi (λC s H fp _=>(hg C s H fp).xe) (λC s H fp _=>(ht C s H fp).xe) (λC s H fp _ _ _=>ha C s H fp _) hs I h λU H2 fp C σ5 H5 s5 oD ob I2 f2 hC J hd q=>?_)
 have I6:Inv X pins σ (upd H5 U.heap.objs.size ob) s5:=rJ (h':=s5.heap) I2 f2 hC rfl J hd ⟨rfl,λ_ _=>rfl⟩
 show wpAny (model X.prog X.w) X.A (assign (.Name x z) X.env (.ref U.heap.objs.size)) _ X.xe s5
 obtain ⟨mC,hnC,_⟩:=J.loc
 have nC:upd H5 U.heap.objs.size ob C=none:=by
  rw [az (Nat.ne_of_gt hC)];exact J.free
 have fC:=I2.Vy (xt hC) nC
 refine wpAny_assign_Name (uq (v:=.ref U.heap.objs.size) (u:=.ref U.heap.objs.size) I6 hN hi' hx rfl (λs7 I7 zq=>?_) hf)
 obtain ⟨a,sb,ha⟩:=zq
 refine ⟨mC,?_,λh' sb'=>zC (zC ⟨_,_,I7.turned (t':=s7.toks) fC λb o hb e=>(sb'.2 b hb).trans e,q⟩)⟩
 obtain ⟨o,es,ep,Z,r⟩:=hnC
 refine ⟨o,es,ep,(sb.2 C ?_).trans Z,r⟩
 rcases ha with rfl|ha
 ·exact fC.2.l
 ·exact Ne.symm (fC.2.c _ _ ha)
end
section
variable {X:Cx} {pins:List (Addr × Obj)} {σ:St} {H H':Hp} {s:Shared} {h':Heap}
theorem JX {xs:List V} {us:List Value} (r:Vals xs us):Vals xs.reverse us.reverse:=by
 induction r with
 | nil=>exact .nil
 | cons h t ih=>
  rw [yr,yr]
  exact ih.append (.cons h .nil)
def Z3 (K:PySem.W.Frag) (n:TE):TE:=λσ H Q=>n σ H λx H1=>∃(a:Addr) (xs:List V),x=.ref a/\jr K H1 a xs/\∀p,H1 p=none->Q (.ref p) (upd H1 p (.lst xs.reverse))
theorem Wc {j} (he:PE X e te):PE X (.Subscript e (.Slice none none (some (.UnaryOp .USub (.Constant (.int 1) j p1) p2)) p3) pos) (Z3 X.K te):=by
 intro pins s σ H Q I h
 refine Subscript_ (bu (he pins s σ H _ I h) λv O z=>?_)
 obtain ⟨x,H1,I1,Y,q1⟩:=z
 obtain ⟨a,xs,rfl,hq,q⟩:=q1
 cases Y
 refine wpAny_Slice ?_
 rw [evalPart_none]
 refine zC ?_
 refine zC ?_
 rw [evalPart_some]
 refine bu ((Tt Jy uZ:PE X _ _) pins O σ H1 (λy H2=>y=.int (-1)/\H2=H1) I1 ⟨1,rfl,rfl,rfl⟩) λw n z=>?_
 obtain ⟨y,H2,I2,U,q2⟩:=z
 obtain ⟨rfl,rfl⟩:=q2
 obtain ⟨tk,rfl⟩:=U
 have D:Inv X pins σ H2 { n with heap:=n.heap.push { cls:=.type "slice",data:=.fields #[.none,.none,.int (-1) tk] } }:=I2.kept (t':=n.toks) λb Z q=>zu _ q
 obtain ⟨B,J,pl,hz⟩:=D.list hq
 show wpAny (model X.prog X.w) X.A (subscriptTail e (.Slice none none (some (.UnaryOp .USub (.Constant (.int 1) j p1) p2)) p3) (.ref a) (.ref n.heap.objs.size)) (EP X pins σ Q) X.xe { n with heap:=n.heap.push { cls:=.type "slice",data:=.fields #[.none,.none,.int (-1) tk] } }
 refine tail_any (ops:=[.ref a,.ref n.heap.objs.size]) pl.isList.typeIs slot_list_getitem.lookup ?_ (by with_unfolding_all rfl)
 have hl:=J.length
 refine wpAny_getItem_list_slice pl.isList (Heap.IsSliceOf.new ..) .none .none (.int (-1) tk) (by simp) ?_ (by rw [zG]<;>omega)
 rw [PySem.W.krv_pick]
 refine ⟨.ref _,_,D.laid (t':=n.toks) (o:=.lst xs.reverse) (λb Z q=>zu _ q) (zx _) ?_,rfl,q _ (D.hok.fresh (zx _))⟩
 exact ⟨by rw [yP];exact hz,B.reverse,0,JX J,zD _ rfl⟩
def Z4 (i j:Int):Prop:=0<j/\j.natAbs.log2<9000
theorem JZ:iB X (binaryOp .FloorDiv) (rI Z4 λi j=>.int (i / j)):=Zb λi j _ _ _ _ _ n q=>by
 have h1:(0:Int)<j:=n.1
 refine floordiv_int (by omega) ?_ (.inl (PyProof.noPylong_of_log2 n.2))
 rw [Int.fdiv_eq_ediv_of_nonneg _ (by omega)]
 exact q
end
structure aO (K:PySem.W.Frag) (mg:Str->Option Value) (x:Str) (st:Stmt) (ps:List Str) where
 f:Addr
 fd:FuncData
 F:tZ K x x st f fd
 m:mg x=some (.ref f)
 b:Binds K fd ps []
theorem rK {X:Cx} {x:Str} {st:Stmt} {ps:List Str} {k:Nat} {sp:Sp} {e:Expr} {es:List Expr} {p pos:Pos} {t:TA} (D:aO X.K X.mg x st ps) (G:bY X.prog X.w X.K X.mg X.base m8 k D.f D.fd ps sp) (z:bR k X.A) (I:PA X (e::es) t)
  (B:Gl X x:=by rfl) (n:(x == ("__debug__":Str))=false:=by decide) (he:starEach (e::es) X.env=(false,eval e X.env)::starEach es X.env:=by rfl) (hpl:(backTo pos (starEach es X.env)).any (·.1)=false:=by rfl) :
  PE X (.Call (.Name x p) (e::es) [] pos) (TF sp [] E0 t):=
 Qw G z B D.m D.F.kp D.b .nil Af I n he hpl
structure g_ (osc:Scope) (oN:List Str) (scope:Scope) (N:List Str) (k:Nat):Prop where
 kind:scope.kind=.function
 rH:∀y∈scope.names,y.2≠.cell
 nd:N.Nodup
 len:N.length=k+oN.length
 loc:∀x∈scope.names,x.2=.local->scope.names.lookup x.1=some .local
 free:∀x∈scope.names,x.2=.free->osc.names.lookup x.1=some .cell\/osc.names.lookup x.1=some .free
 own:∀x∈N.take k,scope.names.lookup x=some .local
 out:∀p∈(N.drop k).zip oN,(scope.names.lookup p.1).isSome=true->p.1=p.2/\scope.names.lookup p.1=some .free\/scope.names.lookup p.1=some .globalImplicit
theorem a_.of {X:Cx} {n:Scope} {N:List Str} {k:Nat} (S:g_ X.env.scope X.N n N k):a_ X n N k where
 kind:=S.kind
 rH:=S.rH
 nd:=S.nd
 len:=S.len
 loc:=S.loc
 free:=S.free
 own:=λi x hi e=>S.own x (by
  have:(N.take k)[i]? = some x:=by rw [List.getElem?_take_of_lt hi];exact e
  exact yE this)
 out:=λi x e J=>by
  have U:=S.len
  have hi:k+i<N.length:=(zt.mp e).1
  have B:i<X.N.length:=by omega
  have e1:(N.drop k)[i]? = some x:=by rw [yB];exact e
  have e2:X.N[i]? = some X.N[i]:=zg B
  have O:((N.drop k).zip X.N)[i]? = some (x,X.N[i]):=by
   rw [List.getElem?_zip_eq_some]
   exact ⟨e1,e2⟩
  rcases S.out _ (yE O) J with ⟨I,D⟩|z
  ·exact .inl ⟨by rw [e2];exact yn some I.symm,D⟩
  ·exact .inr z
theorem cZ (h:H p=none) (o:HO):aX H (upd H p o):=λb u q=>by rw [az (bC q h)];exact q
section
variable {X:Cx} {K:PySem.W.Frag}
theorem J0 (h:X.K=K):P0 X (V2 K):=by subst h;exact Fq
theorem J6 (h:X.K=K):SlR X (ZX K):=by subst h;exact QB
def adw (K:PySem.W.Frag):List V->Hp->VK->Prop:=λxs H Q=>∃p ys,xs=[.ref p]/\(jr K H p ys\/Cr K H p ys)/\Q (.int ys.length) H
theorem uA (h:X.K=K):jR X (.builtin "len") (adw K):=by subst h;exact vz
theorem J7 (h:X.K=K) (n:PE X l tl):PI X tg l (Tr K tl):=by subst h;exact Qm n
theorem Fx {k:Nat} (I:X.K=K) (D:X.calm=true) (h:u9 X es t) (B:(assignEach es X.env).length=n:=by rfl) (z:(assignEach es X.env).findIdx? (·.1)=none:=by rfl):PG X (.Tuple es k pos) (Zx K n t):=by
 subst I;exact Vt D h B z
theorem QV {j} (h:X.K=K) (he:PE X e te):PE X (.Subscript e (.Slice none none (some (.UnaryOp .USub (.Constant (.int 1) j p1) p2)) p3) pos) (Z3 K te):=by subst h;exact Wc he
end
theorem Di {X:Cx} {k:Nat} {pos:Pos} (hN:X.N.Nodup) (z:X.N[i]? = some x) (B:Loc X.env.scope x)
  (S:a_ X scope N k) (O:X.calm=true) (hi:PI X tg iter wi)
  (J:∀C s H fp,PG (bF X scope N C s H fp) tg g) (D:∀C s H fp,xK (bF X scope N C s H fp) ifs tt) (he:∀C s H fp,PE (bF X scope N C s H fp) elt te)
  (n:swapsWith (.ListComp elt [⟨tg,iter,ifs,0⟩] scope pos2) (some (.Name x pos')) pos.line X.env=pure true:=by rfl)
  (I:∀x,foldedSetIterable iter X.env x=pure x:=by intro _;rfl) (hf:X.fn x=true\/X.env.scope.names.lookup x=some .local:=by first|exact .inl rfl|exact .inr rfl|assumption) :
  PS X (.Assign [.Name x pos'] (.ListComp elt [⟨tg,iter,ifs,0⟩] scope pos2) pos) (Jv (Ag k wi g tt te) (xW i)):=
 pY JW (λu=>by rw [arm_evalThenUse_ListComp];rfl) hN z B S O hi J D (λC s H fp _=>vB (he C s H fp).xe) n I hf
section
variable {κ:Type} [DecidableEq κ]
def iZ (n:List (κ × V)) (k:κ):Option V:=(n.find? λz=>decide (z.1=k)).map (·.2)
def putK (n:List (κ × V)) (k:κ) (v:V):List (κ × V):=
 if (n.any λz=>decide (z.1=k))=true then n.map (λz=>if z.1=k then (z.1,v) else z) else n++[(k,v)]
theorem J8 {k:κ}:iZ ([]:List (κ × V)) k=none:=rfl
theorem rM {p:κ × V} {k:κ} (e:p.1=k):iZ (p::r) k=some p.2:=by simp [iZ,List.find?_cons,e]
theorem rN {p:κ × V} {k:κ} (e:¬p.1=k):iZ (p::r) k=iZ r k:=by simp [iZ,List.find?_cons,e]
theorem Ah (k:κ):∀kvs:List (κ × V),(kvs.any λn=>decide (n.1=k))=(iZ kvs k).isSome
 | []=>rfl
 | p::r=>by
  rw [xj]
  by_cases e:p.1=k
  ·simp only [rM e,yj e,Bool.true_or,Option.isSome_some]
  ·rw [rN e,zY e,Bool.false_or];exact Ah k r
theorem jT (n:List (κ × V)) (k:κ) (v:V):(putK n k v).length<=n.length+1:=by
 unfold putK
 split
 ·rw [zd];omega
 ·rw [zj,zH,List.length_nil];omega
theorem J9 {k:κ} (v:V) (h:iZ kvs k=none):putK kvs k v=kvs++[(k,v)]:=by
 unfold putK
 rw [Ah,h]
 exact zi (by decide)
theorem oX.HW {o:Option V} {u:Option Value} (r:oX o u):o.isSome=u.isSome:=by
 cases o with
 | none=>cases u with
  | none=>rfl
  | some _=>exact (show False from r).elim
 | some _=>cases u with
  | none=>exact (show False from r).elim
  | some _=>rfl
theorem KV.val (r:KV kvs vs) (k:κ):oX (iZ kvs k) (valueAt vs k):=by
 unfold KV at r
 induction r with
 | nil=>exact True.intro
 | @cons p q ps qs h t ih=>
  obtain ⟨h1,h2⟩:=h
  by_cases e:p.1=k
  ·have n:q.1=k:=h1.symm.trans e
   have b:valueAt (q::qs) k=some q.2:=by simp [valueAt,List.find?_cons,n]
   rw [rM e,b];exact h2
  ·have n:¬q.1=k:=λz=>e (h1.trans z)
   have b:valueAt (q::qs) k=valueAt qs k:=by simp [valueAt,List.find?_cons,n]
   rw [rN e,b];exact ih
theorem KV.any {n:List (κ × V)} {vs:List (κ × Value)} (r:KV n vs) (k:κ):(n.any λz=>decide (z.1=k))=vs.any λz=>decide (z.1=k):=by
 unfold KV at r
 induction r with
 | nil=>rfl
 | cons h t ih=>rw [xj,xj,ih,h.1]
theorem KV.repl {B:List (κ × V)} {vs:List (κ × Value)} (r:KV B vs) (k:κ) (D:RelV y u) :
  KV (B.map λn=>if n.1=k then (n.1,y) else n) (vs.map λn=>if n.1=k then (n.1,u) else n):=by
 unfold KV at r ⊢
 induction r with
 | nil=>exact .nil
 | @cons p q ps qs h t ih=>
  rw [yu,yu]
  refine .cons ?_ ih
  obtain ⟨h1,h2⟩:=h
  by_cases e:p.1=k
  ·rw [zm e,zm (h1.symm.trans e)];exact ⟨h1,D⟩
  ·rw [zi e,zi (λz=>e (h1.trans z))];exact ⟨h1,h2⟩
theorem KV.put (r:KV kvs vs) (k:κ) (n:RelV y u):KV (putK kvs k y) (stored vs k u):=by
 unfold putK stored
 rw [r.any k]
 by_cases e:(vs.any λz=>decide (z.1=k))=true
 ·rw [zm e,zm e];exact r.repl k n
 ·rw [zi e,zi e];exact Paired.snoc r ⟨rfl,n⟩
theorem KV.length {n:List (κ × V)} {vs:List (κ × Value)} (r:KV n vs):n.length=vs.length:=Paired.length r
end
theorem Ai {k:Key} (r:RelV (kV k) u):(gR P w).is k u=true:=by
 cases k with
 | inl i=>obtain ⟨t,e⟩:=(show ∃t,u=Value.int i t from r);subst e;exact xO P w i t
 | inr x=>obtain ⟨t,e⟩:=(show ∃t,u=Value.str x t from r);subst e;exact xP P w x t
section
variable {P:Program} {w:World} {H:Hp} {h:Heap} {a:Addr}
theorem Z5 (ok:jO P w H h) (e:Rd H a u):bN P w H h a u:=e.ok ok
theorem TV {n:List (Key × V)} (ok:jO P w H h) (e:Rd H a (.dK n)):n.length<=sizeLine/\(a == sysModules)=false/\∃vs,KV n vs/\h.DictOf (gR P w) a vs:=
 show bN P w H h a (.dK n) from Z5 ok e
theorem Fy {n:List (Key × V)} (ok:jO P w H h) (e:H a=some (.dK n)):n.length<=sizeLine/\(a == sysModules)=false/\∃vs,KV n vs/\h.DictOf (gR P w) a vs:=TV ok (.inl e)
end
def J_ (H:Hp) (a:Addr) (y:V) (r:Option V):Prop:=
 ∃kvs k,Rd H a (.dK kvs)/\y=kV k/\r=iZ kvs k
theorem J_.k {H:Hp} {a:Addr} {n:List (Key × V)} {k:Key} (e:H a=some (.dK n)):J_ H a (kV k) (iZ n k):=⟨n,k,.inl e,rfl,rfl⟩
section
variable {X:Cx} {pins:List (Addr × Obj)} {σ:St} {H:Hp} {s:Shared} {a:Addr} {y v:V} {u r:Value} {o:Option V} {A:Around} {E:Value->Shared->Prop}
theorem Inv.big (I:Inv X pins σ H s):sysModules<s.heap.objs.size:=by
 have h:mainGlobals<s.heap.objs.size:=(I.mod.glob.keeps I.bk).lt
 exact xf (by decide) h
theorem adx (J:A.units+1<cLine) (I:Inv X pins σ H s) (g:J_ H a y o) (B:RelV y u) (h:∀s',Inv X pins σ H s'->Q (.bool o.isSome) s') :
  wpAny (model X.prog X.w) A (compareOp .In u (.ref a)) Q E s:=by
 obtain ⟨kvs,k,e,D,l⟩:=g
 subst D
 obtain ⟨z,hd,vs,n,dd⟩:=TV I.hok e
 refine wpAny_in_of (Ai B) hd dd.mapOf ?_
 rw [<-(n.val k).HW,<-l]
 exact h _ (I.tok _)
theorem Fz {h':Heap} (I:Inv X pins σ H s) (mu:Zk (H a)) (n:Heap.SameBut a s.heap h') (he:∃q,h'.get? a=some q) (new:bN X.prog X.w (upd H a ob) h' a ob) :
  Inv X pins σ (upd H a ob) { s with heap:=h',toks:=t' }:=
 I.write (x:=a) (e:=a) mu (.inl rfl) (λb q B z=>(n.2 b B).trans z) he new
theorem Ka {D:Hp} {h':Heap} {n:List (Key × V)} (z:n.length<=sizeLine) (hd:(a == sysModules)=false) (B:KV n vs) (dd:h'.DictOf (gR P w) a vs) :
  bN P w D h' a (.dK n):=⟨z,hd,vs,B,dd⟩
end
def Z6 (ty n:TE):TE:=λσ H Q=>ty σ H λy H1=>n σ H1 λx H2=>∃a o,x=.ref a/\J_ H2 a y o/\Q (.bl o.isSome) H2
section
variable {X:Cx} {o i e value:Expr} {pos pos' tpos:Pos} {td ty tv:TE}
theorem Kc (O:X.A.units+1<cLine) (hi:PE X i ty) (U:PE X o td):PC X .In i o (Z6 ty td):=by
 intro pins s σ H Q I h
 refine bu (hi pins s σ H _ I h) λiv z ⟨y,H1,I1,B,q1⟩=>bu (U pins z σ H1 _ I1 q1) λu s2 n=>?_
 obtain ⟨x,H2,Z,D,a,J,ex,g,q2⟩:=n
 subst ex
 obtain rfl:u=Value.ref a:=D
 exact adx O Z g B λs3 Y=>⟨.bl J.isSome,H2,Y,rfl,q2⟩
end
theorem Kd (h:Heap) (n:sysModules<h.objs.size):bN P w H (h.push { cls:=.type "dict",data:=.dict #[] }) h.objs.size (.dK []):=
 ⟨ye _,yt.mpr (Ne.symm (zK n)),[],.nil,Heap.DictOf.new h⟩
def Dj:List (TE × TE)->St->Hp->(List (V × V)->Hp->Prop)->Prop
 | [],_,H,Q=>Q [] H
 | (tk,tv)::r,σ,H,Q=>tk σ H λx H1=>tv σ H1 λy H2=>Dj r σ H2 λps n=>Q ((x,y)::ps) n
abbrev VV:List (V × V)->List (Value × Value)->Prop:=Paired λp q=>RelV p.1 q.1/\RelV p.2 q.2
def PPs (X:Cx) (pos:Pos) (z:List (Option Expr)) (n:List Expr) (B:List (TE × TE)):Prop:=
 ∀(pins:List (Addr × Obj)) (s:Shared) (σ:St) (H:Hp) (Q:List (V × V)->Hp->Prop),Inv X pins σ H s->Dj B σ H Q->
  wpAny (model X.prog X.w) X.A (evalPairs (pairTrees z n X.env pos)) (λvs s'=>∃ps H',Inv X pins σ H' s'/\VV ps vs/\Q ps H') X.xe s
theorem QX:PPs X pos [] [] []:=λpins s σ H Q I h=>pairTrees_nil_walk ⟨[],H,I,.nil,h⟩
theorem Ke {k:Expr} {z:TE} (hk:PE X k z) (Z:PE X v tv) (hr:PPs X pos ks vs trs) :
  PPs X pos (some k::ks) (v::vs) ((z,tv)::trs):=λpins s σ H Q I h=>
 pairTrees_cons_walk (bu (hk pins s σ H _ I h) λu J ⟨x,H1,I1,U,q1⟩=>bu (Z pins J σ H1 _ I1 q1) λw2 D ⟨y,H2,I2,O,q2⟩=>
  bu (hr pins D σ H2 _ I2 q2) λws s3 B=>by obtain ⟨ps,H3,I3,n,Y⟩:=B;exact ⟨(x,y)::ps,H3,I3,.cons ⟨U,O⟩ n,Y⟩)
def rO (n more:List (Key × V)):List (Key × V):=more.foldl (λz B=>putK z B.1 B.2) n
theorem KV.merge:∀{more:List (Key × V)} {n:List (Key × Value)} {kvs:List (Key × V)} {vs:List (Key × Value)},KV more n->KV kvs vs->KV (rO kvs more) (merged vs n):=by
 intro more n kvs vs r
 unfold KV at r
 induction r generalizing kvs vs with
 | nil=>intro q;exact q
 | @cons p q ps qs h t ih=>
  intro z
  have e:KV (putK kvs p.1 p.2) (stored vs q.1 q.2):=by
   have:=z.put p.1 h.2
   rw [<-h.1];exact this
  exact ih e
theorem lN:∀(more kvs:List (Key × V)),(rO kvs more).length<=kvs.length+more.length
 | [],kvs=>by show kvs.length<=kvs.length+0;omega
 | p::r,kvs=>by
  have h1:=lN r (putK kvs p.1 p.2)
  have h2:=jT kvs p.1 p.2
  show (rO (putK kvs p.1 p.2) r).length<=_
  rw [zH];omega
theorem rP:∀{kvs:List (Key × V)} {ws:List (Value × Value)},VV (kvs.map λz=>(kV z.1,z.2)) ws->∃n,Carries (gR P w) ws n/\KV kvs n
 | [],_,r=>by rw [List.map_nil] at r;cases r;exact ⟨[],True.intro,.nil⟩
 | p::kvs,_,r=>by
  rw [yu] at r
  cases r with
  | @cons a b as bs h t=>
   obtain ⟨n,c,q⟩:=rP (P:=P) (w:=w) t
   obtain ⟨B,b2⟩:=b
   exact ⟨(p.1,b2)::n,⟨Ai h.1,rfl,c⟩,.cons ⟨rfl,h.2⟩ q⟩
def Z7 (n:List (TE × TE)):TE:=λσ H Q=>∀p,H p=none->Dj n σ (upd H p (.dK [])) λps H2=>H2 p=some (.dK [])/\∃kvs:List (Key × V),ps=kvs.map (λz=>(kV z.1,z.2))/\kvs.length<=15/\Q (.ref p) (upd H2 p (.dK (rO [] kvs)))
theorem QZ {n:List (Option Expr)} {B:List Expr} {D:List (TE × TE)} (h:PPs X pos n B D) (J:n.all (·.isSome)=true) (hl:n.length=B.length) (h0:n≠[])
  (U:n.length<=15):PE X (.Dict n B pos) (Z7 D):=by
 intro pins s σ H Q I q
 have hn:=I.hok.fresh (zx s.heap.objs.size)
 have I1:=I.laid (a:=s.heap.objs.size) (o:=.dK []) (h':=s.heap.push { cls:=.type "dict",data:=.dict #[] }) (t':=s.toks) (λ_ _ q=>zu _ q) (zx _) (Kd s.heap I.big)
 refine wpAny_Dict_walk (knd:=gR X.prog X.w) J hl h0 U (bu (h pins _ σ _ _ I1 (q _ hn)) λws s2 Z=>?_)
 obtain ⟨ps,H2,Y,O,e,kvs,ep,lk,q2⟩:=Z
 subst ep
 obtain ⟨rs,c,rk⟩:=rP (P:=X.prog) (w:=X.w) O
 obtain ⟨z,hd,vs0,r0,dd⟩:=Fy Y.hok e
 cases r0
 refine ⟨rs,c,dd,λh' Kf hs=>⟨.ref s.heap.objs.size,_,?_,rfl,q2⟩⟩
 have hz:(rO [] kvs).length<=sizeLine:=by
  have h1:=lN kvs []
  rw [List.length_nil] at h1
  rw [xn];omega
 have he:∃q,h'.get? s.heap.objs.size=some q:=let ⟨q,_,_,hq,_⟩:=Kf;⟨q,hq⟩
 exact Fz Y (by rw [e];exact True.intro) hs he (Ka hz hd (rk.merge .nil) Kf)
abbrev Wd (I D:TE) (n:List (Key × V)) (B:St) (H:Hp) (Q:List (Key × V)->Hp->Prop):Prop:=I B H λy O=>D B O λz J=>∃k,y=kV k/\Q (putK n k z) J
abbrev Q0 (z n:Expr) (p:Pos) (D:Addr) (env:Env):Sem Unit:=do
 let kv <-eval z env
 let vv <-holding [kv] (eval n env)
 standAt p
 holding [kv,vv] (dictSet D kv vv)
theorem Q3 {Y:Cx} {kx Z:Expr} {tk tv:TE} {p:Pos} (hk:PE Y kx tk) (hv:PE Y Z tv):QK Y HO.dK List.length (Wd tk tv) (Q0 kx Z p):=by
 intro D oD pl σ H s kvs M I hd hz q
 refine zh (bu (hk _ s σ H _ I q) λyk s9 J=>?_)
 obtain ⟨zk,H9,I9,r9,q9⟩:=J
 refine zh (ya (bu (hv _ s9 σ H9 _ I9 q9) λyv sA J=>?_))
 obtain ⟨U,HA,IA,rA,B,ek,qA⟩:=J
 subst ek
 obtain ⟨eD,_⟩:=IA.pin (D,oD) (by simp)
 obtain ⟨_,hm,vs,rv,dd⟩:=hd HA sA.heap eD
 refine zh (xx (ya (wpAny_dictSet_pairs (hsz:=by rw [<-rv.length];exact xt hz) (Ai r9) dd λh' Kf hs=>?_)))
 obtain ⟨o',es,ep,n,hx,O,_⟩:=id Kf
 exact ⟨putK kvs B U,o',HA,sA,h',_,IA,qA,rfl,n,λH h e=>⟨by have:=jT kvs B U;omega,hm,stored vs B yv,rv.put B rA,Kf.at λo e'=>by rw [n] at e';cases e';exact e⟩,(λv z=>by rw [O] at z;cases z),λb o hb e=>(hs.2 b hb).trans e⟩
def We (k:Nat) (n:TI) (g:TG) (B:TT) (D z:TE):TE:=o8 HO.dK List.length [] (Wd D z) k n g B
theorem Aj {X:Cx} {n:Scope} {N:List Str} {k:Nat} {i:Nat} {x:Str} {Z Y B U:Expr} {J:List Expr} {pos O I:Pos} {wi:TI} {g:TG} {tt:TT} {tk tv:TE} (hN:X.N.Nodup) (hi':X.N[i]? = some x) (hx:Loc X.env.scope x)
  (S:a_ X n N k) (hc:X.calm=true) (hi:PI X U B wi)
  (hg:∀C s H fp,PG (bF X n N C s H fp) U g) (ht:∀C s H fp,xK (bF X n N C s H fp) J tt) (hk:∀C s H fp,PE (bF X n N C s H fp) Z tk) (hv:∀C s H fp,PE (bF X n N C s H fp) Y tv)
  (hsw:swapsWith (.DictComp Z Y [⟨U,B,J,0⟩] n I) (some (.Name x O)) pos.line X.env=pure true)
  (hs:∀x,foldedSetIterable B X.env x=pure x) (hf:X.fn x=true\/X.env.scope.names.lookup x=some .local) :
  PS X (.Assign [.Name x O] (.DictComp Z Y [⟨U,B,J,0⟩] n I) pos) (Jv (We k wi g tt tk tv) (xW i)):=
 pY (Ty:="dict") (d0:=.dict #[])
  ⟨rfl,codeAny_compStart_dict,λit D env=>⟨_,yn (Sem.onRaise · λx=>do noteFrame x env;theTreesLotGoes x) (compTurn_dict Z Y U B J n I it D env)⟩,λ_ _ _ _=>rfl,rfl,by size_fits,(λv z=>by cases z),
   λD H h hD e=>⟨ye _,hD,[],.nil,_,#[],0,e,⟨rfl,rfl,rfl⟩,rfl,by intro x hx;simp at hx,.nil,x9⟩⟩
  (λu=>by rw [arm_evalThenUse_DictComp];rfl) hN hi' hx S hc hi hg ht (λC s H fp _=>Q3 (hk C s H fp).xe (hv C s H fp).xe) hsw hs hf
def Itv (K:PySem.W.Frag) (a:Addr) (n:Nat):It:=
 ⟨λi H=>∃xs x,jr K H a xs/\xs.length=n/\i<n/\xs[n - 1 - i]? = some x,λi H x H'=>H'=H/\∀xs,jr K H a xs->xs[n - 1 - i]? = some x,λi H=>n=i⟩
theorem Kg {P:Program} {w:World} {K:PySem.W.Frag} {tg:Expr} (a:Addr) (n:Nat) (D:Addr):Turn P w K tg (Itv K a n) [D] D (λi h=>i<=n/\h.IsRevIter D a ((n:Int) - 1 - (i:Int))):=
 nu (n:="list_reverseiterator") (by decide) (λi h st=>by obtain ⟨_,o,e,c,d⟩:=st;exact ⟨o,_,e,c,d⟩) (λi h h' st k=>⟨st.1,st.2.at k⟩)
  (λX U J Y hc i pins s σ H E Q I st O q=>by
   subst U J Y
   obtain ⟨xs,x,hq,hn,hi,Z⟩:=O
   obtain ⟨its,rv,p,hz⟩:=I.list hq
   obtain ⟨u,hu,ru⟩:=rv.get Z
   have z:=st.2
   rw [show (n:Int) - 1 - (i:Int)=((n - 1 - i:Nat):Int) by omega] at z
   refine wpAny_pyNext_rev_item z p.isList (x:=u) (by simpa using hu) λh' B sb=>q u x h' s.toks ru ⟨rfl,λys hy=>by rw [I.rC hy hq];exact Z⟩ ⟨hi,?_⟩ λb o hb e=>(sb.2 b hb).trans e
   rw [show (n:Int) - 1 - ((i+1:Nat):Int)=((n - 1 - i:Nat):Int) - 1 by omega]
   exact B)
  (λX U J Y hc i pins s σ H E Q I st O q=>by
   subst U J Y
   have z:=st.2
   rw [show (n:Int) - 1 - (i:Int) = -1 by have:n=i:=O;omega] at z
   exact wpAny_pyNext_rev_end (I.ok.hd hc) z q)
  λ_ _ _ _ _ st h=>wpAny_pyIter_revIter st.2 h
section
variable {X:Cx} {K:PySem.W.Frag}
def Z8 (K:PySem.W.Frag) (n:TA):TI:=λσ H R=>n σ H λvs H1=>∃a xs,vs=[.ref a]/\jr K H1 a xs/\R (Itv K a xs.length) H1
theorem Wf {a:Expr} {D:TA} {U:Expr} {p2 n:Pos} (hg:Gl X "reversed") (hm:X.mg "reversed"=none) (ha:PA X [a] D) (hs:starEach [a] X.env=[(false,eval a X.env)]:=by rfl) :
  PI X U (.Call (.Name "reversed" p2) [a] [] n) (Z8 X.K D):=by
 intro pins s σ H R I h
 refine Call_ (gD (u:=.type "reversed") I hg hm (by kernel_rfl) (zX (bu (ha n pins s σ H _ I h) λus z ⟨vs,H1,O,Z,q1⟩=>?_) hs rfl))
 obtain ⟨l,xs,e,hq,q⟩:=q1
 subst e
 cases Z with
 | cons r rr=>
  cases rr
  cases r
  obtain ⟨B,Y,p,hz⟩:=O.list hq
  refine call_reversed_list p.isList ?_
  have e1:((B.toArray.size:Nat):Int) - 1=(xs.length:Int) - 1 - ((0:Nat):Int):=by rw [zG,<-Y.length];simp
  rw [e1]
  have J:(z.heap.push (revObj l ((xs.length:Int) - 1 - ((0:Nat):Int)))).IsRevIter z.heap.objs.size l ((xs.length:Int) - 1 - ((0:Nat):Int)):=⟨_,zD _ rfl,rfl,rfl⟩
  exact wpAny_pyIter_revIter (s:={ z with heap:=z.heap.push (revObj l ((xs.length:Int) - 1 - ((0:Nat):Int))) }) J (Hq O (Kg l xs.length) ⟨ye _,J⟩ q)
theorem Q4 {n:Pos} (h:X.K=K) (D:Gl X "reversed") (B:X.mg "reversed"=none) (I:PA X [a] ta) (z:starEach [a] X.env=[(false,eval a X.env)]:=by rfl) :
  PI X tg (.Call (.Name "reversed" n) [a] [] pos2) (Z8 K ta):=by subst h;exact Wf D B I z
end
end L2
namespace L2
open PySem PySem.Spec PyProof.Rows Builtin Builtin.Str
section
variable {X:Cx} {K:PySem.W.Frag}
theorem uB:∀{ts:List Str} {n:List Value},Vals (ts.map V.str) n->∃l:List (Str × Tok),n=strValues l/\l.map (·.1)=ts
 | [],_,r=>by cases r;exact ⟨[],rfl,rfl⟩
 | t::ts,_,r=>by
  cases r with
  | cons h r=>
   obtain ⟨u,rfl⟩:=h
   obtain ⟨l,e1,e2⟩:=uB r
   exact ⟨(t,u)::l,by rw [e1];rfl,by rw [<-e2];rfl⟩
theorem uC:∀(l:List (Str × Tok)),Vals ((l.map (·.1)).map V.str) (strValues l)
 | []=>.nil
 | p::l=>.cons ⟨p.2,rfl⟩ (uC l)
def rJoin (K:PySem.W.Frag):V->List V->Hp->VK->Prop:=λx vs H Q=>∃(sep:Str) (a:Addr) (ts:List Str),x=.str sep/\vs=[.ref a]/\jr K H a (ts.map V.str)/\JoinOk sep ts=true/\Q (.str (Txt.join sep ts)) H
theorem Q5:Zc X "str.join" (rJoin X.K):=by
 intro pins s σ H x vs v U Q I n z h
 obtain ⟨sep,a,ts,rfl,rfl,O,ok,q⟩:=h
 obtain ⟨t,rfl⟩:=n
 obtain ⟨u,rfl,B⟩:=z.one
 cases B
 obtain ⟨J,D,pl,Z⟩:=I.list O
 obtain ⟨l,rfl,e⟩:=uB D
 exact SC.join pl.isList e ok λY k=>⟨.str _,H,I.tok _,⟨_,rfl⟩,q⟩
theorem Kh (h:X.K=K):Zc X "str.join" (rJoin K):=by subst h;exact Q5
theorem Ak {s:Shared} {x y:Str} (B:(y.length == 0)=false) (hsz:x.length<=100000)
  (z:∀(l:List (Str × Tok)) (k:Nat),l.map (·.1)=Txt.split x y->Q (.ref s.heap.objs.size) { s with toks:=k,heap:=s.heap.push { cls:=.type "list",data:=.seq (strValues l).toArray } }) :
  wpAny (model prog w) A (call (.builtin "str.split") [.str x t,.str y u]) Q E s:=by
 have D:x.length<=sizeLine:=zQ hsz (by decide)
 cases h1:(decide (x.length<y.length) || decide (strKind x<strKind y))
 ·cases hf:(occurrences x y 0 x.length (x.length+1)).isEmpty
  ·have I:(partsBetween x (occurrences x y 0 x.length (x.length+1)) y.length).length<=sizeLine:=by
    have h2:=StrLaws.occ_length_le x y 0 x.length (x.length+1)
    rw [StrLaws.partsBetween_eq]
    have J:∀(n:List Nat) (a:Nat),(StrLaws.partsFrom x y.length a n).length=n.length+1:=λn=>by
     induction n with
     | nil=>intro a;rfl
     | cons c r ih=>intro a;show (StrLaws.partsFrom x y.length (c+y.length) r).length+1=r.length+1+1;rw [ih]
    rw [J,xn];omega
   refine xa F.slot_str_split (typeIs_str _ _ _) F.entry_str_split (F.args_str_split_2 _ _) (meets_str_split_sep x y t u h1 B hf D I) ?_
   show wants Q E _ { s with toks:=_,heap:=s.heap.push { cls:=.type "list",data:=.seq (strsFrom s.toks (partsBetween x (occurrences x y 0 x.length (x.length+1)) y.length)).toArray } }
   rw [strsFrom_eq]
   exact z (numbered s.toks _) _ ((numbered_texts _ _).trans ((zi (ne_true_of_eq_false h1)).trans (zi (ne_true_of_eq_false hf))).symm)
  ·exact xa F.slot_str_split (typeIs_str _ _ _) F.entry_str_split (F.args_str_split_2 _ _) (meets_str_split_not_found x y t u h1 B hf) (z [(x,t)] s.toks ((zi (ne_true_of_eq_false h1)).trans (zm hf)).symm)
 ·exact xa F.slot_str_split (typeIs_str _ _ _) F.entry_str_split (F.args_str_split_2 _ _) (meets_str_split_cannot_occur x y t u h1) (z [(x,t)] s.toks (zm h1).symm)
def Wg:V->List V->Hp->VK->Prop:=λx vs H Q=>∃(z y:Str),x=.str z/\vs=[.str y]/\(y.length == 0)=false/\z.length<=100000/\(Txt.split z y).length<=100000/\∀l,H l=none->Q (.ref l) (upd H l (.lst ((Txt.split z y).map V.str)))
theorem Km:Zc X "str.split" Wg:=by
 intro pins s σ H x vs v Y Q I B D h
 obtain ⟨z,y,rfl,rfl,U,O,n,q⟩:=h
 obtain ⟨t,rfl⟩:=B
 obtain ⟨u,rfl,J⟩:=D.one
 obtain ⟨t',rfl⟩:=J
 refine Ak U O λl k e=>?_
 rw [<-e] at n q
 rw [zd] at n
 exact ⟨.ref _,_,I.laid (t':=k) (λb o e=>zu _ e) (zx _) (show bN X.prog X.w _ _ _ (.lst _) from ⟨by rw [zd,zd,xn];omega,strValues l,0,uC l,zD _ rfl⟩),rfl,q _ (I.hok.fresh (zx _))⟩
def Its (x:Str):It:=⟨λi _=>i<x.cps.size,λi H v H'=>H'=H/\∃c,x.cps[i]? = some c/\v=.str ⟨#[c]⟩,λi _=>x.cps.size<=i⟩
theorem Ko {P:Program} {w:World} {Z:Expr} (x:Str) (t:Tok) (B:Addr):Turn P w K Z (Its x) [B] B (λi h=>h.IsStrIter B "str_ascii_iterator" x t i):=
 nu (n:="str_ascii_iterator") (by decide) (λi h st=>by obtain ⟨o,e,c,d⟩:=st;exact ⟨o,_,e,c,d⟩) (λi h h' st k=>by obtain ⟨o,ho,r⟩:=st;exact ⟨o,k o ho,r⟩)
  (λX O D U Y i pins s σ H E Q I st J q=>by
   subst O D U
   have hi:i<x.cps.size:=J
   exact wpAny_pyNext_ascii_item st (c:=x.cps[i]) (by simp [hi]) λh' z sb=>q _ (.str ⟨#[x.cps[i]]⟩) h' (s.toks+1) ⟨_,rfl⟩ ⟨rfl,_,by simp [hi],rfl⟩ z λb o hb e=>(sb.2 b hb).trans e)
  (λX O D U Y i pins s σ H E Q I st J q=>by
   subst O D U
   have hi:x.cps.size<=i:=J
   exact wpAny_pyNext_ascii_end (I.ok.hd Y) st (by simp;omega) q)
  λ_ _ _ _ _ st h=>wpAny_pyIter_striter_ascii st h
def adA (n:TE):TI:=λσ H R=>n σ H λv H1=>∃x,v=.str x/\x.cps.all (·<128)=true/\R (Its x) H1
theorem Wh (B:PE X l tl):PI X tg l (adA tl):=by
 intro pins s σ H R I h
 refine bu (B pins s σ H _ I h) λv U n=>?_
 obtain ⟨O,H1,J,z,q1⟩:=n
 obtain ⟨x,rfl,D,q⟩:=q1
 obtain ⟨t,rfl⟩:=z
 exact wpAny_pyIter_ascii D (Hq J (Ko x t) ⟨_,zD _ rfl,rfl,rfl⟩ q)
end
end L2
namespace L2
open PySem PySem.Spec PyProof.Rows
section
variable {P:Program} {w:World} {H:Hp} {h:Heap} {a:Addr} {o:HO}
theorem bN.ex (x:bN P w H h a o):∃ob,h.get? a=some ob:=by
 induction o with
 | lst xs=>obtain ⟨_,_,_,_,e⟩:=x;exact ⟨_,e⟩
 | tup xs=>obtain ⟨_,_,_,o,e,_⟩:=x;exact ⟨_,e⟩
 | dK kvs=>obtain ⟨_,_,_,_,o,_,_,e,_⟩:=x;exact ⟨_,e⟩
 | ins C dx fs=>obtain ⟨_,_,_,e,_⟩:=x;exact ⟨_,e⟩
 | own y=>exact x
 | Cw ob u ih=>exact ⟨_,x.1⟩
 | ext φ=>exact x.2.1
end
def Trc (h₀:Heap) (n:Hp) (a C:Addr) (h:Heap):Prop:=
 n a=none/\h₀.get? a=none/\∃oe vs T oT ts,h.get? a=some oe/\oe.cls=.ref C/\oe.data=.fields vs/\vs[1]? = some (.ref T)/\T≠a/\h₀.get? T=none/\n T=none/\h.get? T=some oT/\oT.data=.fields ts/\ts[3]? = some .none
section
variable {M:Model} {A:Around} {E:Value->Shared->Prop} {s:Shared} {base:Heap} {env:Env} {outer:List Env} {L e T:Addr} {oe oT:Obj} {vs ts:Array Value} {Q:Unit->Shared->Prop}
structure Note (fs ex:List Addr) (h h':Heap):Prop where
 keep:∀b o,h.get? b=some o->b ∉ ex->b ∉ fs->h'.get? b=some o
 slot:∀b o,h.get? b=some o->b∈fs->∃sl,h'.get? b=some { o with slots:=sl }
theorem Dl:∀env∈l,∀b,env.frame=some b->b∈frs l:=λenv n b z=>List.mem_filterMap.mpr ⟨env,n,z⟩
theorem Dm (U:A.frames=some (env::outer)) (hl:s.heap.FunFrames base (env::outer)) (hf:env.frame=some L) (he:s.heap.get? e=some oe) (hd:oe.data=.fields vs) (h1:vs[1]? = some (.ref T)) (hTe:T≠e)
  (hT:s.heap.get? T=some oT) (Y:oT.data=.fields ts) (h3:ts[3]? = some .none)
  (h:∀h',Note (frs (env::outer)) [e,T] s.heap h'->(∃n B J I D,h'.get? e=some n/\n.cls=oe.cls/\n.data=.fields B/\B[1]? = some (.ref J)/\J≠e/\(s.heap.get? J=none\/J=T)/\h'.get? J=some I/\I.data=.fields D/\D[3]? = some .none)->Q () { s with heap:=h' }) :
  wpAny M A (leaving env (.ref e)) Q E s:=by
 have m1:e∈e::T::frs (env::outer):=zo
 have m2:T∈e::T::frs (env::outer):=zp _ zo
 refine wpAny_leaving_next (base:=PySem.W.hideAll s.heap (e::T::frs (env::outer))) (cls:=oe.cls) U (PySem.W.funFrames_hide hl λenv he b Z=>zp _ (zp _ (Dl env he b Z))) hf
  ⟨oe,vs,T,oT,ts,he,rfl,hd,h1,yW _ m2,hTe,hT,Y,h3⟩ (λb o q=>PySem.W.of_hideAll _ q) (yW _ m1) λh' ⟨x1,x2,x3,x4⟩=>h h' ⟨λb o q n1 n2=>?_,λb o q Z=>?_⟩ ?_
 ·refine x1 b o (yQ _ q λz=>?_)
  rcases zr.mp z with z|z
  ·exact n1 (by rw [z];exact zo)
  rcases zr.mp z with z|z
  ·exact n1 (by rw [z];exact zp _ zo)
  exact n2 z
 ·obtain ⟨_,o',q',O⟩:=hl.mem Z
  rw [q] at q';cases q'
  exact x4 b o q O
 ·obtain ⟨n,B,J,I,D,a1,a2,a3,a4,a5,a6,a7,a8,a9⟩:=x3
  refine ⟨n,B,J,I,D,a1,a2,a3,a4,a6,?_,a7,a8,a9⟩
  by_cases z:J=T
  ·exact .inr z
  ·refine .inl ?_
   cases q:s.heap.get? J with
   | none=>rfl
   | some o=>
    have:=yQ (e::T::frs (env::outer)) q λy=>by
     rcases zr.mp y with y|y
     ·exact a6 y
     rcases zr.mp y with y|y
     ·exact z y
     obtain ⟨_,o',q',O⟩:=x2.mem y
     rw [a7] at q';cases q'
     exact O _ a8
    rw [a5] at this;cases this
theorem Al (U:A.frames=some (env::outer)) (Z:s.heap.FunFrames base (env::outer)) (hf:env.frame=some L) (he:s.heap.get? e=some oe) (hd:oe.data=.fields vs) (h1:vs[1]? = some .none)
  (h:∀h',Note (frs (env::outer)) [e] s.heap h'->(∃n B J I D,h'.get? e=some n/\n.cls=oe.cls/\n.data=.fields B/\B[1]? = some (.ref J)/\J≠e/\s.heap.get? J=none/\h'.get? J=some I/\I.data=.fields D/\D[3]? = some .none)->Q () { s with heap:=h' }) :
  wpAny M A (leaving env (.ref e)) Q E s:=by
 have m1:e∈e::frs (env::outer):=zo
 refine wpAny_leaving_first (base:=PySem.W.hideAll s.heap (e::frs (env::outer))) U (PySem.W.funFrames_hide Z λenv he b Y=>zp _ (Dl env he b Y)) hf he
  (λb o q=>PySem.W.of_hideAll _ q) (yW _ m1) hd h1 λh' ⟨x1,x2,x3,x4⟩=>h h' ⟨λb o q n1 n2=>?_,λb o q Y=>?_⟩ ?_
 ·refine x1 b o (yQ _ q λz=>?_)
  rcases zr.mp z with z|z
  ·exact n1 (by rw [z];exact zo)
  exact n2 z
 ·obtain ⟨_,o',q',O⟩:=Z.mem Y
  rw [q] at q';cases q'
  exact x4 b o q O
 ·obtain ⟨n,B,J,I,D,a1,a2,a3,a4,a5,a6,a7,a8,a9⟩:=x3
  refine ⟨n,B,J,I,D,a1,a2,a3,a4,a6,?_,a7,a8,a9⟩
  cases q:s.heap.get? J with
  | none=>rfl
  | some o=>
   have:=yQ (e::frs (env::outer)) q λy=>by
    rcases zr.mp y with y|y
    ·exact a6 y
    obtain ⟨_,o',q',O⟩:=x2.mem y
    rw [a7] at q';cases q'
    exact O _ a8
   rw [a5] at this;cases this
end
def oV (P:Program) (w:World):Hz:=λouter H s E e s'=>∃a C H',e=.ref a/\s'.os=s.os/\AllBare s'.gens/\Un (frs outer) [] H H' s.heap s'.heap/\jO P w H' s'.heap/\Trc s.heap H' a C s'.heap/\E (.ref C) none H'
section
variable {P:Program} {w:World} {K:PySem.W.Frag} {mg:Str->Option Value} {base:Heap} {N:List Str} {qual:Str} {scope:Scope} {f:Addr} {cd:Value} {A:Around} {outer:List Env} {s₀:Shared} {H₀:Hp} {E₀:XK}
theorem qI {X:Cx} {σ:St} {s':Shared} {ex:List Addr} (hs:X.stack=X.env::X.outer) (hL:X.env.frame=some X.env.locals) (hx:X.ex=[]) (I:Inv X pins σ H' s') (n:Note (frs X.stack) ex s'.heap h')
  (new:∀b∈ex,X.s₀.heap.get? b=none/\H' b=none):Un (frs X.outer) [] X.H₀ H' X.s₀.heap h'/\jO X.prog X.w H' h':=by
 have U:=I.base
 have nol:∀b o,X.s₀.heap.get? b=some o->b ∉ frs X.outer->b ∉ frs X.stack:=λb o q n1 z=>by
  rcases zr.mp (I.lV b z) with y|y
  ·have l1:=zF q
   have l2:=I.ok.above
   rw [<-y] at l2
   exact absurd (zI l1 l2) (xw _)
  ·exact n1 y
 have O:∀b o,X.s₀.heap.get? b=some o->b ∉ ex:=λb o q z=>by rw [(new b z).1] at q;cases q
 have B:∀b:Addr,b ∉ X.ex:=λb z=>by rw [hx] at z;cases z
 refine ⟨⟨λb o q J n1 _=>n.keep b o (U.keep b o q J n1 (B b)) (O b o q) (nol b o q n1),λb o q J D _=>?_,λb o q J _=>U.free b o q J (B b),λb o q _=>?_,U.qe⟩,λa o q=>?_⟩
 ·obtain ⟨sl,e1⟩:=U.slot b o q J D (B b)
  have hb':b∈frs X.stack:=by
   rw [hs]
   show b∈List.filterMap _ (X.env::X.outer)
   rw [List.filterMap_cons,hL]
   exact zp _ D
  obtain ⟨Y,e2⟩:=n.slot b _ e1 hb'
  exact ⟨Y,e2⟩
 ·obtain ⟨Z,e1⟩:=U.there b o q (B b)
  by_cases D:b∈frs X.stack
  ·obtain ⟨sl,e2⟩:=n.slot b Z e1 D
   exact ⟨_,e2⟩
  ·exact ⟨Z,n.keep b Z e1 (O b o q) D⟩
 ·refine (I.hok a o q).stay (λb u D e1=>?_) λ_ z=>z
  have ht:H' b≠none:=by
   rcases D with rfl|D
   ·rw [q];intro z;cases z
   ·rw [D];intro z;cases z
  exact n.keep b u e1 (λz=>ht (new b z).2) λz=>ht (I.qz b z)
theorem Dn {D:List (Addr × Obj)} {σ:St} {H U:Hp} {s s':Shared} {a C:Addr} (I:Inv (fK (oV P w) P w K mg base N qual scope f cd A outer s₀ H₀ E₀) D σ H s)
  (J:Inv (fK (oV P w) P w K mg base N qual scope f cd A outer s₀ H₀ E₀) D σ U s') (t:Trc s.heap U a C s'.heap) (q:E₀ (.ref C) none U):(fK (oV P w) P w K mg base N qual scope f cd A outer s₀ H₀ E₀).xe (.ref a) s':=by
 obtain ⟨t0,t1,oe,vs,T,oT,ts,a1,a2,a3,a4,a5,a6,a7,a8,a9,a10⟩:=t
 have B:∀b,s.heap.get? b=none->s₀.heap.get? b=none:=λb z=>by
  cases y:s₀.heap.get? b with
  | none=>rfl
  | some o=>obtain ⟨_,e⟩:=I.base.there b o y (by intro z;cases z);rw [z] at e;cases e
 have O:∀b,s'.heap.get? b=none->s₀.heap.get? b=none:=λb z=>by
  cases y:s₀.heap.get? b with
  | none=>rfl
  | some o=>obtain ⟨_,e⟩:=J.base.there b o y (by intro z;cases z);rw [z] at e;cases e
 refine Dm (base:=base) J.ok.frames J.stack rfl a1 a3 a4 a5 a8 a9 a10 λh' n zq=>?_
 obtain ⟨oe',Y,T',oT',Z,b1,b2,b3,b4,b5,b6,b7,b8,b9⟩:=zq
 obtain ⟨un,hok⟩:=qI rfl rfl rfl J n (λb hb=>by
  rcases zr.mp hb with rfl|hb
  ·exact ⟨B _ t1,t0⟩
  ·rw [zA.mp hb];exact ⟨B _ a6,a7⟩)
 refine ⟨a,C,U,rfl,J.os,J.bare,un,hok,⟨t0,B _ t1,oe',Y,T',oT',Z,b1,by rw [b2,a2],b3,b4,b5,?_,?_,b7,b8,b9⟩,q⟩
 ·rcases b6 with z|z
  ·exact O _ z
  ·rw [z];exact B _ a6
 ·rcases b6 with z|z
  ·cases y:U T' with
   | none=>rfl
   | some o=>obtain ⟨_,e⟩:=(J.hok _ _ y).ex;rw [z] at e;cases e
  ·rw [z];exact a7
theorem Am {B:List (Addr × Obj)} {σ:St} {H:Hp} {s s':Shared} {a C t:Addr} {args:List Value} (I:Inv (fK (oV P w) P w K mg base N qual scope f cd A outer s₀ H₀ E₀) B σ H s)
  (m:Heap.MadeExcOf s.heap s'.heap a (.ref C) args) (hs:s'={ s with heap:=s'.heap }) (q:E₀ (.ref C) none H):(fK (oV P w) P w K mg base N qual scope f cd A outer s₀ H₀ E₀).xe (.ref a) s':=by
 obtain ⟨t,a1,a2,a3⟩:=m.there
 have D:Inv (fK (oV P w) P w K mg base N qual scope f cd A outer s₀ H₀ E₀) B σ H s':=by rw [hs];exact I.kept (t':=s.toks) m.keeps
 have ht:H a=none:=by
  cases y:H a with
  | none=>rfl
  | some o=>obtain ⟨_,e⟩:=(I.hok _ _ y).ex;rw [m.new] at e;cases e
 have O:∀b,s.heap.get? b=none->s₀.heap.get? b=none:=λb z=>by
  cases y:s₀.heap.get? b with
  | none=>rfl
  | some o=>obtain ⟨_,e⟩:=I.base.there b o y (by intro z;cases z);rw [z] at e;cases e
 have J:∀b,s'.heap.get? b=none->s₀.heap.get? b=none:=λb z=>by
  cases y:s₀.heap.get? b with
  | none=>rfl
  | some o=>obtain ⟨_,e⟩:=D.base.there b o y (by intro z;cases z);rw [z] at e;cases e
 refine Al (base:=base) D.ok.frames D.stack rfl a1 rfl rfl λh' n zq=>?_
 obtain ⟨Z,U,T',oT',Y,b1,b2,b3,b4,b5,b6,b7,b8,b9⟩:=zq
 obtain ⟨un,hok⟩:=qI rfl rfl rfl D n (λb hb=>by rw [zA.mp hb];exact ⟨O _ m.new,ht⟩)
 refine ⟨a,C,H,rfl,D.os,D.bare,un,hok,⟨ht,O _ m.new,Z,U,T',oT',Y,b1,b2,b3,b4,b5,J _ b6,?_,b7,b8,b9⟩,q⟩
 cases y:H T' with
 | none=>rfl
 | some o=>obtain ⟨_,e⟩:=(D.hok _ _ y).ex;rw [b6] at e;cases e
end
abbrev FJ:List Value:=[.type "ValueError",.type "Exception",.type "BaseException",.type "object"]
structure uD (K:PySem.W.Frag) (mg:Str->Option Value) (x:Str) (C:Addr):Prop where
 m:mg x=some (.ref C)
 ok:PySem.W.excIn K C FJ "ValueError.__new__"=true
theorem uD.own {K:PySem.W.Frag} {mg:Str->Option Value} {x:Str} {C:Addr} {h:Heap} (c:uD K mg x C) (I:K.In h):OwnCls x C FJ "ValueError.__new__" mg h:=by
 have q:=c.ok
 refine ⟨c.m,?_⟩
 unfold PySem.W.excIn at q
 cases z:K.lookup C with
 | none=>rw [z] at q;cases q
 | some o=>
  rw [z] at q
  obtain ⟨oc,dd,od,sl⟩:=o
  split at q
  ·rename_i Kf cd sl' eo
   cases (eo)
   obtain ⟨l⟩:=sl
   split at q
   ·rename_i C' bm k0 k1 k2 k3 n k5 em es
    obtain ⟨nm,bs,O,ns,J,hd,sn,D,ab,col,del⟩:=cd
    simp only [yo,beq_iff_eq,Bool.not_eq_true'] at q em es
    obtain ⟨⟨⟨⟨⟨e1,e2⟩,Z⟩,Y⟩,B⟩,U⟩:=q
    subst em e1 e2 Z es
    exact ⟨bm,ns,nm,J,bs,hd,sn,D,ab,col,dd,k0,k1,k2,k3,k5,_,I _ _ z,.of_isNs (PySem.W.isNs_of_in I B),PySem.W.nsMap_none_of_in I B U,PySem.W.tail_of_in I Y⟩
   ·cases q
  ·cases q
section
variable {X:Cx} {CX:Hz} {k:Nat} {f:Addr} {fd:FuncData} {ps:List Str} {sp:Sp} {E:XK} {x:Str} {st:Stmt} {p pos np cpos:Pos} {e:Expr} {es:List Expr} {t:TA} {C:Addr} {G:Addr->St->Hp->Prop}
theorem vC {B:St} (F:bY X.prog X.w X.K X.mg X.base CX k f fd ps sp) (J:bR k X.A) (U:Binds X.K fd ps []) (I:Inv X pins B H s) (r:Vals vs us) (h:sp vs H Q E)
  (D:∀e s',CX X.stack H s E e s'->X.xe e s'):wpAny (model X.prog X.w) X.A (call (.ref f) us) (EP X pins B Q) X.xe s:=by
 have O:us.length=ps.length:=by rw [<-r.length];exact F.len _ _ _ _ h
 have z:=U s us I.q_ (by rw [zW];exact O)
 rw [zW] at z
 refine wpAny_call (codeAny_mono (F.run X.A X.stack s H ⟨us,[]⟩ us vs Q E J I.env0 z r h) λr s' n=>?_)
 match r,n with
 | .error e,n=>exact D e s' n
 | .ok (.ret u),n=>exact I.after n
def pq (X:Cx) (G:Addr->St->Hp->Prop):Prop:=∀(pins:List (Addr × Obj)) (σ:St) (H:Hp) (s:Shared) (H':Hp) (s':Shared) (a C:Addr),Inv X pins σ H s->Inv X pins σ H' s'->Trc s.heap H' a C s'.heap->G C σ H'->X.xe (.ref a) s'
def vD (X:Cx) (G:Addr->St->Hp->Prop):Prop:=∀(pins:List (Addr × Obj)) (σ:St) (H:Hp) (s s':Shared) (a C:Addr) (args:List Value),Inv X pins σ H s->Heap.MadeExcOf s.heap s'.heap a (.ref C) args->s'={ s with heap:=s'.heap }->G C σ H->X.xe (.ref a) s'
def Wi (sp:Sp) (G:Addr->St->Hp->Prop) (t:TA):TE:=λσ H Q=>t σ H λvs H1=>sp vs H1 Q λcl _ H'=>∃C,cl=.ref C/\G C σ H'
theorem Kq (D:aO X.K X.mg x st ps) (F:bY X.prog X.w X.K X.mg X.base (oV X.prog X.w) k D.f D.fd ps sp) (Y:bR k X.A) (lk:pq X G) (ha:PA X (e::es) t)
  (Z:Gl X x:=by rfl) (B:(x == ("__debug__":Str))=false:=by decide) (he:starEach (e::es) X.env=(false,eval e X.env)::starEach es X.env:=by rfl) (hpl:(backTo pos (starEach es X.env)).any (·.1)=false:=by rfl) :
  PE X (.Call (.Name x p) (e::es) [] pos) (Wi sp G t):=by
 intro pins s σ H Q I h
 refine yV (jo I Z D.m ?_ B)
 refine xh (h₀:=X.base) I.ok.mod.Qh D.F.kp (bu (ha pos pins s σ H _ I h) λus U ⟨vs,H1,n,r,q⟩=>⟨n.q_,?_⟩) he hpl
 refine vC F Y D.b n r q λe s' J=>?_
 obtain ⟨a,C,H',e1,e2,e3,un,hok,O,C',e4,g⟩:=J
 subst e1
 cases e4
 exact lk pins σ H1 U H' s' a C n (n.call' e2 un hok e3 (λb z=>absurd z (by simp))) O g
def Wj (G:Addr->St->Hp->Prop) (C:Addr) (t:TA):TS:=λ_ σ H=>t σ H λvs H1=>vs.length<=sizeLine/\G C σ H1
theorem Kr (c:uD X.K X.mg x C) (hc:X.calm=true) (lk:vD X G) (ha:PA X (e::es) t)
  (hg:Gl X x:=by rfl) (J:(x == ("__debug__":Str))=false:=by decide) (he:starEach (e::es) X.env=(false,eval e X.env)::starEach es X.env:=by rfl) (hpl:(backTo cpos (starEach es X.env)).any (·.1)=false:=by rfl) :
  PS X (.Raise (some (.Call (.Name x np) (e::es) [] cpos)) none pos) (Wj G C t):=by
 intro pins s σ H D I h
 have O:=c.own I.mod.Qh
 obtain ⟨m0,n0,z,q0,b0,d0,s0,u0,a0,c0,U,j0,j1,j2,j3,j5,f0,hC,hN,B,T⟩:=O.obj
 refine wpAny_Raise_call_subT (bm:=m0) (nm:=z) (q:=q0) (N:=n0) (bs:=b0) (hdct:=d0) (sn:=s0) (sub:=u0) (ab:=a0) (col:=c0) (dd:=U) (k0:=j0) (k1:=j1) (k2:=j2) (k3:=j3) (k5:=j5) (C:=C) F.excBase_ValueError (mN:=f0)
  (T.hasType F.excBase_ValueError.hasBase) (I.ok.hd hc) (by rw [he];show (false || (backTo cpos (starEach es X.env)).any (·.1))=false;rw [hpl];rfl) B (jo I hg c.m ⟨rfl,?_⟩ J)
 have Y:=ha cpos pins s σ H _ I h
 rw [he] at Y ⊢
 exact Calls.evalArgs_plain (yT Y (λus s2 Z=>by obtain ⟨vs,H2,n,r,hl,g⟩:=Z;exact ⟨rfl,by rw [<-r.length];exact hl,n.bk _ _ hC,hN.keeps n.bk,T.keeps n.bk,λh' a m=>lk pins σ H2 s2 _ a C us n m rfl g⟩) λ_ _ y=>y)
end
def TY (a C:Addr):Heap->Prop:=λh=>∃o,h.get? a=some o/\o.cls=.ref C/\∃vs,o.data=.fields vs
abbrev XO (a C:Addr):HO:=.ext (TY a C)
section
variable {X:Cx} {pins:List (Addr × Obj)} {σ σ':St} {H:Hp} {s:Shared} {h':Heap} {a C:Addr}
theorem Dp {h:Heap} {sl:Array (Option Value)} (z:h.IsCell c v) (e:h.get? c=some o) (n:h'.get? c=some { o with slots:=sl }):h'.IsCell c v:=by
 obtain ⟨B,h1,h2⟩:=z
 rw [e] at h1;cases h1
 exact ⟨_,n,h2⟩
theorem rQ {ex:List Addr} (hs:X.stack=X.env::X.outer) (hL:X.env.frame=some X.env.locals) (Y:X.ex=[]) (I:Inv X pins σ H s) (n:Note (frs X.stack) ex s.heap h')
  (new:∀b∈ex,X.s₀.heap.get? b=none/\H b=none/\b≠X.env.locals/\(∀x c,X.env.cells.lookup x=some c->c≠b)/\∀p∈X.pn++pins,p.1≠b):Inv X pins σ H { s with heap:=h',toks:=t' }:=by
 obtain ⟨un,hok⟩:=qI hs hL Y I n λb B=>⟨(new b B).1,(new b B).2.1⟩
 have D:Un X.fs X.ex X.H₀ H X.s₀.heap h':=by rw [Y];exact un
 have O:∀b o,s.heap.get? b=some o->b ∉ ex->∃sl,h'.get? b=some { o with slots:=sl }:=λb o q nb=>by
  by_cases B:b∈frs X.stack
  ·exact n.slot b o q B
  ·exact ⟨o.slots,n.keep b o q nb B⟩
 obtain ⟨m,hn,hl⟩:=I.loc
 have J:h'.Ns X.env.locals m:=by
  obtain ⟨o,es,ep,ho,hd,r⟩:=hn
  obtain ⟨sl,e⟩:=O _ o ho λz=>(new _ z).2.2.1 rfl
  exact ⟨_,es,ep,e,hd,r⟩
 have cl:∀x c v,X.env.cells.lookup x=some c->s.heap.IsCell c v->h'.IsCell c v:=λx c v e z=>by
  obtain ⟨o,h1,h2⟩:=id z
  obtain ⟨sl,e2⟩:=O c o h1 λy=>(new _ y).2.2.2.1 x c e rfl
  exact Dp z h1 e2
 refine ⟨I.ok,I.os,I.bare,D,⟨m,J,λi x v e1 e2 e3=>?_⟩,λx c e=>?_,I.free,I.gk,λp Z=>?_,hok,I.len⟩
 ·obtain ⟨u,r,q⟩:=hl i x v e1 e2 e3
  refine ⟨u,r,?_⟩
  rcases q with q|⟨k,c,e,z⟩
  ·exact .inl q
  ·exact .inr ⟨k,c,e,cl x c _ e z⟩
 ·obtain ⟨v,z⟩:=I.cell x c e
  exact ⟨v,cl x c v e z⟩
 ·obtain ⟨e,nn,ne,U,d⟩:=I.pin p Z
  refine ⟨n.keep _ _ e (λz=>(new _ z).2.2.2.2 p Z rfl) λz=>?_,nn,ne,U,d⟩
  rcases zr.mp (I.lV _ z) with y|y
  ·exact ne y
  ·exact U y
end
section
variable {M:Model} {A:Around} {E:Value->Shared->Prop} {s:Shared} {base:Heap} {env:Env} {outer:List Env} {L e T:Addr} {oe oT:Obj} {vs ts:Array Value} {Q:Unit->Shared->Prop}
theorem uE (U:A.frames=some (env::outer)) (hl:s.heap.FunFrames base (env::outer)) (hf:env.frame=some L) (he:s.heap.get? e=some oe) (hd:oe.data=.fields vs) (h1:vs[1]? = some (.ref T)) (hTe:T≠e)
  (hT:s.heap.get? T=some oT) (Y:oT.data=.fields ts) (h3:ts[3]? = some .none)
  (h:∀h',Note (frs (env::outer)) [e,T] s.heap h'->(∃n B J I D fl,h'.get? e=some n/\n.cls=oe.cls/\n.data=.fields B/\B[1]? = some (.ref J)/\J≠e/\(s.heap.get? J=none\/J=T)/\h'.get? J=some I/\I.data=.fields D/\D[3]? = some fl)->Q () { s with heap:=h' }) :
  wpAny M A (noteFrame (.ref e) env) Q E s:=by
 have m1:e∈e::T::frs (env::outer):=zo
 have m2:T∈e::T::frs (env::outer):=zp _ zo
 have h0:∃a0,vs[0]? = some a0:=⟨_,Array.getElem?_eq_getElem (xf (by decide) (yF.mp h1).1)⟩
 obtain ⟨a0,h0⟩:=h0
 refine wpAny_noteFrame_onW (base:=PySem.W.hideAll s.heap (e::T::frs (env::outer))) (cls:=oe.cls) (a0:=a0) U (PySem.W.funFrames_hide hl λenv he b Z=>zp _ (zp _ (Dl env he b Z))) hf
  ⟨oe,vs,T,oT,ts,he,⟨rfl,h0⟩,hd,h1,yW _ m2,hTe,hT,Y,h3⟩ (λb o q=>PySem.W.of_hideAll _ q) (yW _ m1) λh' ⟨x1,x2,x3,x4⟩=>h h' ⟨λb o q n1 n2=>?_,λb o q Z=>?_⟩ ?_
 ·refine x1 b o (yQ _ q λz=>?_)
  rcases zr.mp z with z|z
  ·exact n1 (by rw [z];exact zo)
  rcases zr.mp z with z|z
  ·exact n1 (by rw [z];exact zp _ zo)
  exact n2 z
 ·obtain ⟨_,o',q',O⟩:=hl.mem Z
  rw [q] at q';cases q'
  exact x4 b o q O
 ·obtain ⟨n,B,J,I,D,a1,a2,a3,a4,a5,a6,a7,a8,a9⟩:=x3
  refine ⟨n,B,J,I,D,_,a1,a2.1,a3,a4,a6,?_,a7,a8,a9⟩
  by_cases z:J=T
  ·exact .inr z
  ·refine .inl ?_
   cases q:s.heap.get? J with
   | none=>rfl
   | some o=>
    have:=yQ (e::T::frs (env::outer)) q λy=>by
     rcases zr.mp y with y|y
     ·exact a6 y
     rcases zr.mp y with y|y
     ·exact z y
     obtain ⟨_,o',q',O⟩:=x2.mem y
     rw [a7] at q';cases q'
     exact O _ a8
    rw [a5] at this;cases this
theorem pZ (he:s.heap.get? e=some oe) (hd:oe.data=.fields vs) (D:vs[1]? = some (.ref T)) (hT:s.heap.get? T=some oT) (n:oT.data=.fields ts) (B:ts[3]? = some fl)
  (h:∀h',(∀b o,s.heap.get? b=some o->b≠T->h'.get? b=some o)->(∃oT' ts',h'.get? T=some oT'/\oT'.data=.fields ts'/\ts'[3]? = some .none)->Q () { s with heap:=h' }):wpAny M A (setFlight (.ref e) none) Q E s:=by
 have z:3<ts.size:=(yF.mp B).1
 refine wpAny_setFlight_none he hd D hT n z (h _ (λb o q nb=>?_) ⟨_,_,Heap.get?_update_self _ hT (Obj.isFreed_of_fields (xg n _)),xg n _,by simp [z]⟩)
 rw [yS _ _ (Ne.symm nb)];exact q
theorem An {fs:List Addr} {h h':Heap} (k:∀b o,h.get? b=some o->b≠T->h'.get? b=some o) (B:T ∉ fs):Note fs [T] h h':=
 ⟨λb o q n _=>k b o q λz=>n (by rw [z];exact zo),λb o q D=>⟨o.slots,k b o q λz=>B (z▸D)⟩⟩
end
section
variable {X:Cx}
abbrev Cx.held (X:Cx) (n:List (Addr × Obj)) (E:Value->Shared->Prop):Cx:={ X with pn:=X.pn++n,xe:=E }
abbrev Cx.suite (X:Cx) (n:List (Addr × Obj)) (A:Around):Cx:={ X with pn:=X.pn++n,xe:=λ_ _=>False,A:=A,calm:=false }
variable {pins:List (Addr × Obj)} {σ:St} {H:Hp} {s:Shared} {E:Value->Shared->Prop} {A:Around}
theorem Inv.held (I:Inv X pins σ H s):Inv (X.held pins E) [] σ H s:=
 ⟨⟨I.ok.mod,I.ok.kind,I.ok.glob,I.ok.blt,I.ok.above,I.ok.inj,I.ok.has,I.ok.cab,I.ok.hd,I.ok.frames,I.ok.stk,I.ok.Vi,I.ok.bs,I.ok.Hi,I.ok.t_,I.ok.uY,I.ok.jP,I.ok.Ji⟩,I.os,I.bare,I.base,I.loc,I.cell,I.free,I.gk,λp n=>I.pin p (by rw [zW] at n;exact n),I.hok,I.len⟩
theorem Inv.pA (I:Inv (X.held pins E) [] σ H s):Inv X pins σ H s:=
 ⟨⟨I.ok.mod,I.ok.kind,I.ok.glob,I.ok.blt,I.ok.above,I.ok.inj,I.ok.has,I.ok.cab,I.ok.hd,I.ok.frames,I.ok.stk,I.ok.Vi,I.ok.bs,I.ok.Hi,I.ok.t_,I.ok.uY,I.ok.jP,I.ok.Ji⟩,I.os,I.bare,I.base,I.loc,I.cell,I.free,I.gk,λp n=>I.pin p (by rw [zW];exact n),I.hok,I.len⟩
theorem Inv.less (I:Inv X Fg σ H s):Inv X [] σ H s:=
 ⟨I.ok,I.os,I.bare,I.base,I.loc,I.cell,I.free,I.gk,λp n=>I.pin p (by rw [zW] at n;exact yM _ n),I.hok,I.len⟩
theorem Inv.suite (I:Inv X pins σ H s) (hA:A.frames=X.A.frames):Inv (X.suite pins A) [] σ H s:=
 ⟨⟨I.ok.mod,I.ok.kind,I.ok.glob,I.ok.blt,I.ok.above,I.ok.inj,I.ok.has,I.ok.cab,(λz=>by cases z),hA.trans I.ok.frames,I.ok.stk,I.ok.Vi,I.ok.bs,I.ok.Hi,I.ok.t_,I.ok.uY,I.ok.jP,I.ok.Ji⟩,I.os,I.bare,I.base,I.loc,I.cell,I.free,I.gk,λp n=>I.pin p (by rw [zW] at n;exact n),I.hok,I.len⟩
theorem Inv.FN (I:Inv (X.suite pins A) [] σ H s) (hd:X.calm=true->X.A.handled=none) (hf:X.A.frames=some X.stack):Inv X pins σ H s:=
 ⟨⟨I.ok.mod,I.ok.kind,I.ok.glob,I.ok.blt,I.ok.above,I.ok.inj,I.ok.has,I.ok.cab,hd,hf,I.ok.stk,I.ok.Vi,I.ok.bs,I.ok.Hi,I.ok.t_,I.ok.uY,I.ok.jP,I.ok.Ji⟩,I.os,I.bare,I.base,I.loc,I.cell,I.free,I.gk,λp n=>I.pin p (by rw [zW];exact n),I.hok,I.len⟩
end
structure XF (K:PySem.W.Frag) (C:Addr):Prop where
 ok:PySem.W.excIn K C FJ "ValueError.__new__"=true
 ga:PySem.W.findIn K (.ref C) "__getattribute__"=some (some (.builtin "BaseException.__getattribute__"))
 gx:PySem.W.findIn K (.ref C) "__getattr__"=some none
 cl:PySem.W.findIn K (.ref C) "__class__"=some (some (.builtin "object.__class__"))
section
variable {prog:Program} {w:World} {A:Around} {E:Value->Shared->Prop} {h:Heap} {g:Array GenState} {d:Drawn} {t:Nat} {os:OsState} {a C:Addr} {o:Obj} {K:PySem.W.Frag}
theorem Wk (f:XF K C) (I:K.In h) (B:h.get? a=some o) (D:o.cls=.ref C) (hq:R (.ok (.ret (.ref C))) ⟨h,g,d,t,os⟩) :
  codeAny (model prog w) A (.call (.builtin "getset_descriptor.__get__") ⟨[.builtin "object.__class__",.ref a,.ref C],[]⟩) R ⟨h,g,d,t,os⟩:=by
 obtain ⟨O,n0,J,q0,b0,d0,s0,Z,a0,c0,Y,j0,j1,j2,j3,j5,f0,hD,hN,U,T⟩:=(uD.own (mg:=λ_=>some (.ref C)) (x:="x") ⟨rfl,f.ok⟩ I).obj
 have z:Shared.TypeIs ⟨h,g,d,t,os⟩ (.builtin "object.__class__") "getset_descriptor":=F.typeOf_object_class
 have n:(Value.ref C::O).contains (.type (".".intercalate ("object.__class__".cutAt '.').dropLast))=true:=by
  rw [F.owner_object_class,List.contains_cons,T.hasType (b:=true) (by decide)];rfl
 refine codeAny_call_builtin F.slot_gs_get.plain F.entry_gs_get (F.slot_gs_get.check _ _ _ _ _ _ _ _ z (F.args_gs_get _ _ _) ?_)
 repeat (any_goals (first|assumption|(with_reducible refine yZ B ?_;rw [D])|(with_reducible refine wpAny_isSubtype_exc hD ?_;rw [n])|wp_step))
 refine ⟨Code.quiet_builtin _ (by decide),?_⟩
 refine codeAny_builtin F.entry_object_class ?_
 repeat (any_goals (first|assumption|(with_reducible refine yZ B ?_;rw [D])|wp_step))
theorem vG (I:K.In h) (e:PySem.W.findIn K (.ref C) n=some r) (B:Q r ⟨h,g,d,t,os⟩):wpAny (model prog w) A (typeLookup (.ref C) n) Q E ⟨h,g,d,t,os⟩:=
 PySem.W.looks_findIn (M:=model prog w) I e A Q E ⟨h,g,d,t,os⟩ (λ_ _ z=>z) B
theorem Ks (f:XF K C) (I:K.In h) (n:h.get? a=some o) (z:o.cls=.ref C) (D:Q (.done (.ret (.ref C))) ⟨h,g,d,t,os⟩):wpAny (model prog w) A (Builtin.«object.__getattribute__» ⟨[.ref a,.str "__class__" tk],[]⟩) Q E ⟨h,g,d,t,os⟩:=by
 have B:Shared.TypeIs ⟨h,g,d,t,os⟩ (.builtin "object.__class__") "getset_descriptor":=F.typeOf_object_class
 have U:=F.typeOf_object_class;have O:=F.slot_gs_get.lookup;have J:=F.slot_gs_set.lookup
 repeat (any_goals (first|assumption|(with_reducible refine yZ n ?_;rw [z])|with_reducible refine vG I f.cl ?_|wp_step))
 refine Wk f I n z ?_
 repeat any_goals first|assumption|wp_step
theorem Ku (f:XF K C) (I:K.In h) (J:h.get? a=some o) (Y:o.cls=.ref C) (O:Q () ⟨h,g,d,t,os⟩) :
  wpAny M A (checkBuiltinCall "BaseException.__getattribute__" ⟨[.ref a,nameV],[]⟩) Q E ⟨h,g,d,t,os⟩:=by
 obtain ⟨D,n0,B,q0,b0,d0,s0,u0,a0,c0,Z,j0,j1,j2,j3,j5,f0,hD,hN,U,T⟩:=(uD.own (mg:=λ_=>some (.ref C)) (x:="x") ⟨rfl,f.ok⟩ I).obj
 have k1:builtinKind "BaseException.__getattribute__"=some .slot:=by decide
 have k2:splitId "BaseException.__getattribute__"=some ("BaseException","__getattribute__"):=by decide
 have n:(Value.ref C::D).contains (.type "BaseException")=true:=by rw [List.contains_cons,T.hasType F.excBase_ValueError.hasBase];rfl
 have z:=F.args_bexc_ga (.ref a) nameV
 simp only [checkBuiltinCall,k1,k2]
 refine zh ?_
 ·unfold isInstance
  repeat (first|(with_reducible refine yZ J ?_;rw [Y])|(with_reducible refine wpAny_isSubtype_exc hD ?_;rw [n])|wp_step)
  exact O
theorem Q6 (f:XF K C) (I:K.In h) (n:h.get? a=some o) (z:o.cls=.ref C) (B:R (.ok (.ret (.ref C))) ⟨h,g,d,t,os⟩) :
  codeAny (model prog w) A (.call (.builtin "BaseException.__getattribute__") ⟨[.ref a,.str "__class__" tk],[]⟩) R ⟨h,g,d,t,os⟩:=
 codeAny_call_builtin F.attrBase_ValueError.ga.plain F.entry_bexc_ga (Ku f I n z (Ks f I n z B))
theorem Z9 {D:Tok} (f:XF K C) (I:K.In h) (n:h.get? a=some o) (z:o.cls=.ref C) (O:Q (.ref C) ⟨h,g,d,t,os⟩):wpAny (model prog w) A (getAttrBy (.ref a) (.str "__class__" D) false) Q E ⟨h,g,d,t,os⟩:=by
 have U:=F.attrBase_ValueError.ga.bind (.ref a)
 have B:(Value.builtin "BaseException.__getattribute__" == Value.builtin "object.__getattribute__")=false:=by decide
 have J:(onTheHeap (Value.ref C) && Value.builtin "BaseException.__getattribute__" == Value.builtin "object.__getattribute__")=false:=by rw [B];rfl
 repeat (any_goals (first|assumption|(with_reducible refine yZ n ?_;rw [z])|with_reducible refine vG I f.ga ?_|with_reducible refine vG I f.gx ?_|wp_step))
 refine Q6 f I n z ?_
 repeat any_goals first|assumption|wp_step
theorem Q7 {Q:Option Value->Shared->Prop} (f:XF K C) (I:K.In h) (n:h.get? a=some o) (z:o.cls=.ref C) (B:Q (some (.ref C)) ⟨h,g,d,t+1,os⟩):wpAny (model prog w) A (getAttr? (.ref a) "__class__") Q E ⟨h,g,d,t,os⟩:=by
 unfold getAttr? getAttrBy?
 repeat (any_goals (first|assumption|with_reducible apply Z9 f I n z|wp_step))
end
theorem Kv {K:PySem.W.Frag} {a C:Addr} (f:XF K C):PySem.W.KitX K (.ref a) (.ref C) (TY a C) where
 ty:=λM h _ ⟨o,h1,h2,_⟩=>h2▸(PySem.W.Looks.ld h1).andThen .now
 it:=λM h I _=>by
  obtain ⟨Z,Y,B,U,b0,d0,O,J,a0,c0,D,j0,j1,j2,j3,j5,f0,hD,_⟩:=(uD.own (mg:=λ_=>some (.ref C)) (x:="x") ⟨rfl,f.ok⟩ I).obj
  intro A' Q' E' s' k q
  unfold isType loadHead
  exact zh (wpAny_loadPart (k _ _ hD) (zC q))
 ne:=λh tp dd its n sl I z=>by
  obtain ⟨Z,Y,B,U,b0,d0,O,J,a0,c0,D,j0,j1,j2,j3,j5,f0,hD,_⟩:=(uD.own (mg:=λ_=>some (.ref C)) (x:="x") ⟨rfl,f.ok⟩ I).obj
  refine Bool.eq_false_iff.mpr λq=>?_
  have e:C=tp:=Value.ref.inj (beq_iff_eq.mp q)
  subst e
  rw [hD] at z
  have:=yn (λo=>o.map (·.cls)) z
  simp at this
 ca:=λ{_ _ _ _ _ s} I ⟨o,h1,h2,_⟩ k=>by obtain ⟨h,g,d,t,os⟩:=s;exact Q7 f I h1 h2 k
section
variable {X:Cx} {σ:St} {H:Hp}
def Z_ (K:PySem.W.Frag) (H:Hp) (v:V) (t:Value):Prop:=uc K H v t\/∃a n,v=.ref a/\H a=some (XO a n)/\t=.ref n/\XF K n
theorem Wl {s:Shared} (I:Inv X pins σ H s) (B:RelV v u) (ty:Z_ X.K H v t):∃D:Heap->Prop,PySem.W.KitX X.K u t D/\D s.heap/\u≠.builtin "__main__.__loader__#opaque":=by
 rcases ty with ty|⟨a,Z,rfl,U,rfl,Y⟩
 ·cases ty with
  | non=>cases (show u=Value.none from B);exact ⟨_,PySem.W.kitx_none,trivial,λz=>nomatch z⟩
  | bl y=>cases (show u=Value.bool y from B);exact ⟨_,PySem.W.kitx_bool,trivial,λz=>nomatch z⟩
  | int i=>obtain ⟨_,q⟩:=(show ∃t,u=Value.int i t from B);cases q;exact ⟨_,PySem.W.kitx_int,trivial,λz=>nomatch z⟩
  | str y=>obtain ⟨_,q⟩:=(show ∃t,u=Value.str y t from B);cases q;exact ⟨_,PySem.W.kitx_str,trivial,λz=>nomatch z⟩
  | @lst a xs ea=>
   cases (show u=Value.ref a from B)
   obtain ⟨_,_,n,_,h1⟩:=(show bN X.prog X.w H s.heap a (.lst xs) from I.hok a _ ea)
   exact ⟨_,PySem.W.kitx_list,⟨_,h1,rfl⟩,λz=>nomatch z⟩
  | @Cw a ob xs ea=>
   cases (show u=Value.ref a from B)
   obtain ⟨_,_,_,n,_,h1⟩:=(show bN X.prog X.w H s.heap a (.Cw ob (.lst xs)) from I.hok a _ ea)
   exact ⟨_,PySem.W.kitx_list,⟨_,h1,rfl⟩,λz=>nomatch z⟩
  | @tup a xs ea=>
   cases (show u=Value.ref a from B)
   obtain ⟨_,_,_,o,h1,h2,_⟩:=(show bN X.prog X.w H s.heap a (.tup xs) from I.hok a _ ea)
   exact ⟨_,PySem.W.kitx_tuple,⟨o,h1,h2⟩,λz=>nomatch z⟩
  | @dK a kvs ea=>
   cases (show u=Value.ref a from B)
   obtain ⟨_,_,vs,_,o,es,ep,h1,h2,_⟩:=(show bN X.prog X.w H s.heap a (.dK kvs) from I.hok a _ ea)
   exact ⟨_,PySem.W.kitx_dict,⟨o,h1,h2.1⟩,λz=>nomatch z⟩
  | @ins a C dx fs ea cl U hn htk hm=>
   cases (show u=Value.ref a from B)
   obtain ⟨mA,O,_⟩:=qH I.hok ea
   obtain ⟨od,J,_⟩:=O.look
   exact ⟨_,PySem.W.kitx_own (cl.get _) cl.hd U hn htk hm,J,λz=>nomatch z⟩
 ·cases (show u=Value.ref a from B)
  obtain ⟨D,_,_⟩:=(show bN X.prog X.w H s.heap a (XO a Z) from I.hok a _ U)
  exact ⟨_,Kv Y,D,λz=>nomatch z⟩
theorem Wm {n:List (Addr × Obj)} {s:Shared} {A:Around} {E:Value->Shared->Prop} {Q:Value->Shared->Prop} {v:V} {u t c:Value} {k:Bool} (I:Inv X n σ H s) (z:RelV v u) (ty:Z_ X.K H v t) (e:PySem.W.kitOne X.K t c=some k)
  (h:∀tk,Q (.bool k) { s with toks:=tk }):wpAny (model X.prog X.w) A (call (.builtin "isinstance") [u,c]) Q E s:=by
 obtain ⟨D,Z,B,ne⟩:=Wl I z ty
 exact PySem.W.kia_one Z I.q_ B e ne h
def adC (K:PySem.W.Frag):List V->Hp->VK->Prop:=λvs H Q=>∃v y c t k,vs=[v,y]/\(∀u,RelV y u->u=c)/\Z_ K H v t/\PySem.W.kitOne K t c=some k/\Q (.bl k) H
theorem Kw {K:PySem.W.Frag} (D:X.K=K):jR X (.builtin "isinstance") (adC K):=λpins s σ H vs J Q I r z=>by
 obtain ⟨v,y,c,t,k,e,B,ty,n,q⟩:=z
 subst e
 cases r with
 | cons r1 r2=>
  cases r2 with
  | cons r3 r4=>
   cases r4
   rw [B _ r3]
   rw [<-D] at ty n
   exact Wm I r1 ty n λtk=>⟨.bl k,H,I.tok tk,rfl,q⟩
end
inductive D where
 | non|bl (b:Bool)|int (i:Int)|str (x:Str)|lst (xs:List D)|tup (xs:List D)|atom (v:V)|p8 (ns:List Int)|uf (ks:List Key) (ds:List D)|exc (C:Addr)
mutual
inductive Rep (K:PySem.W.Frag) (F:Hp):D->V->Prop
 | non:Rep K F .non .non
 | bl (b:Bool):Rep K F (.bl b) (.bl b)
 | int (i:Int):Rep K F (.int i) (.int i)
 | str (x:Str):Rep K F (.str x) (.str x)
 | atom (v:V):Rep K F (.atom v) v
 | lst {a:Addr} {vs:List V} {ds:List D}:F a=some (.lst vs)->aW K F ds vs->Rep K F (.lst ds) (.ref a)
 | tup {a:Addr} {vs:List V} {ds:List D}:F a=some (.tup vs)->aW K F ds vs->Rep K F (.tup ds) (.ref a)
 | p8 {a:Addr} {ns:List Int}:jr K F a (ns.map V.int)->Rep K F (.p8 ns) (.ref a)
 | uf {a:Addr} {ks:List Key} {vs:List V} {ds:List D}:F a=some (.dK (ks.zip vs))->ks.length=vs.length->aW K F ds vs->Rep K F (.uf ks ds) (.ref a)
 | exc {a C:Addr}:F a=some (XO a C)->Rep K F (.exc C) (.ref a)
inductive aW (K:PySem.W.Frag) (F:Hp):List D->List V->Prop
 | nil:aW K F [] []
 | cons {d:D} {v:V} {ds:List D} {vs:List V}:Rep K F d v->aW K F ds vs->aW K F (d::ds) (v::vs)
end
mutual
theorem Rep.mono {K:PySem.W.Frag} {F n:Hp} (h:aX F n):∀{d:D} {v:V},Rep K F d v->Rep K n d v
 | _,_,.non=>.non
 | _,_,.bl b=>.bl b
 | _,_,.int i=>.int i
 | _,_,.str x=>.str x
 | _,_,.atom v=>.atom v
 | _,_,.lst q r=>.lst (h _ _ q) (aW.mono h r)
 | _,_,.tup q r=>.tup (h _ _ q) (aW.mono h r)
 | _,_,.p8 q=>.p8 (h.seq q)
 | _,_,.uf q l r=>.uf (h _ _ q) l (aW.mono h r)
 | _,_,.exc q=>.exc (h _ _ q)
theorem aW.mono {K:PySem.W.Frag} {F n:Hp} (h:aX F n):∀{ds:List D} {vs:List V},aW K F ds vs->aW K n ds vs
 | _,_,.nil=>.nil
 | _,_,.cons r t=>.cons (Rep.mono h r) (aW.mono h t)
end
section
variable {K:PySem.W.Frag} {F:Hp}
theorem aW.length:∀{ds:List D} {vs:List V},aW K F ds vs->ds.length=vs.length
 | _,_,.nil=>rfl
 | _,_,.cons _ t=>by rw [zH,zH,aW.length t]
theorem aW.get:∀{ds:List D} {vs:List V} {i:Nat} {d:D},aW K F ds vs->ds[i]? = some d->∃v,vs[i]? = some v/\Rep K F d v
 | _,_,_,_,.nil,e=>by simp at e
 | _,_,0,_,.cons r _,e=>by simp at e;subst e;exact ⟨_,rfl,r⟩
 | _,_,i+1,d,.cons _ t,e=>by
  obtain ⟨u,h1,h2⟩:=aW.get (i:=i) (d:=d) t (by simpa using e)
  exact ⟨u,by simpa using h1,h2⟩
theorem aW.set (r:Rep K F d v):∀{ds:List D} {vs:List V} (i:Nat),aW K F ds vs->aW K F (ds.set i d) (vs.set i v)
 | _,_,_,.nil=>.nil
 | _,_,0,.cons _ t=>.cons r t
 | _,_,i+1,.cons q t=>.cons q (aW.set r i t)
theorem aW.append:∀{ds es:List D} {vs n:List V},aW K F ds vs->aW K F es n->aW K F (ds++es) (vs++n)
 | _,_,_,_,.nil,s=>s
 | _,_,_,_,.cons r t,s=>.cons r (aW.append t s)
theorem aW.take:∀{ds:List D} {vs:List V} (n:Nat),aW K F ds vs->aW K F (ds.take n) (vs.take n)
 | _,_,0,_=>.nil
 | _,_,_+1,.nil=>.nil
 | _,_,n+1,.cons r t=>.cons r (aW.take n t)
theorem aW.drop:∀{ds:List D} {vs:List V} (n:Nat),aW K F ds vs->aW K F (ds.drop n) (vs.drop n)
 | _,_,0,r=>r
 | _,_,_+1,.nil=>.nil
 | _,_,n+1,.cons _ t=>aW.drop n t
theorem aW.reverse:∀{ds:List D} {vs:List V},aW K F ds vs->aW K F ds.reverse vs.reverse
 | _,_,.nil=>.nil
 | _,_,.cons r t=>by
  rw [yr,yr]
  exact (aW.reverse t).append (.cons r .nil)
theorem aW.rep (r:aW K F ds vs):∀n:Nat,aW K F (List.replicate n ds).flatten (List.replicate n vs).flatten
 | 0=>.nil
 | n+1=>by
  rw [zT,zT,yX,yX]
  exact r.append (aW.rep r n)
theorem aW.ints:∀{ns:List Int} {vs:List V},aW K F (ns.map D.int) vs->vs=ns.map V.int
 | [],_,.nil=>rfl
 | _::r,_,.cons q t=>by
  cases q
  rw [yu,aW.ints (ns:=r) t]
theorem aW.qJ:∀(ns:List Int),aW K F (ns.map D.int) (ns.map V.int)
 | []=>.nil
 | n::r=>.cons (.int n) (aW.qJ r)
end
inductive Sl where
 | d (x:D)|own (xs:List D)|bor (xs:List D)
abbrev aQ:=List (Option Sl)
inductive Ev where
 | fz (x:D)|ow (i:Nat)
def Sl.val:Sl->D
 | .d x=>x
 | .own xs=>.lst xs
 | .bor xs=>.lst xs
def Sl.put (n:List D):Sl->Sl
 | .own _=>.own n
 | .bor _=>.bor n
 | .d x=>.d x
def Sl.mu:Sl->Bool
 | .d _=>false
 | .own _=>true
 | .bor _=>true
def Sl.ev (i:Nat):Sl->Ev
 | .d x=>.fz x
 | .own _=>.ow i
 | .bor _=>.ow i
def lk (p:aQ):Ev->D
 | .fz x=>x
 | .ow i=>match p[i]? with
  | some (some s)=>s.val
  | _=>.non
inductive Rt where
 | rd (x:D)|ro (xs:List D)
def Rt.val:Rt->D
 | .rd x=>x
 | .ro xs=>.lst xs
def Rt.sl:Rt->Sl
 | .rd x=>.d x
 | .ro xs=>.own xs
structure Pc where
 K:PySem.W.Frag
 F0:Hp
 H0:Hp
 bs:List (Nat × Addr)
def Ky (C:Pc) (F H:Hp):Sl->V->Prop
 | .d x,v=>Rep C.K F x v
 | .own xs,v=>∃a vs,v=.ref a/\F a=none/\C.H0 a=none/\H a=some (.lst vs)/\aW C.K F xs vs
 | .bor xs,v=>∃a vs,v=.ref a/\F a=none/\(∃q∈C.bs,q.2=a)/\H a=some (.lst vs)/\aW C.K F xs vs
structure RS (C:Pc) (p:aQ) (σ:St) (F H:Hp):Prop where
 sub:aX F H
 ext:aX C.F0 F
 new:∀a o,F a=some o->C.F0 a=some o\/C.H0 a=none\/∃xs,o=.tup xs
 keep:∀a o,C.H0 a=some o->(∀q∈C.bs,q.2≠a)->H a=some o
 grow:∀a,C.H0 a≠none->H a≠none
 len:p.length=σ.length
 sl:∀(i:Nat) (s:Sl),p[i]? = some (some s)->∃v,σ[i]? = some (some v)/\Ky C F H s v
 apart:∀(i j:Nat) (s s':Sl) (a:Addr),i≠j->p[i]? = some (some s)->s.mu=true->p[j]? = some (some s')->s'.mu=true->σ[i]? = some (some (.ref a))->σ[j]? = some (some (.ref a))->False
 pin:∀q∈C.bs,σ[q.1]? = some (some (.ref q.2))/\∃xs,p[q.1]? = some (some (.bor xs))
def lG (p p1:aQ):Prop:=p1.length=p.length/\∀(i:Nat) (s:Sl),p[i]? = some (some s)->s.mu=true->∃n,p1[i]? = some (some n)/\n.mu=true
theorem lG.refl (p:aQ):lG p p:=⟨rfl,λ_ s h m=>⟨s,h,m⟩⟩
theorem lG.trans {p p1 p2:aQ} (a:lG p p1) (b:lG p1 p2):lG p p2:=⟨b.1.trans a.1,λi s h m=>let ⟨s1,h1,m1⟩:=a.2 i s h m;b.2 i s1 h1 m1⟩
def jL (K:PySem.W.Frag) (p:aQ) (n:St) (F:Hp):Ev->V->Prop
 | .fz x,v=>Rep K F x v
 | .ow i,v=>(∃s,p[i]? = some (some s)/\s.mu=true)/\n[i]? = some (some v)
theorem jL.mono {K:PySem.W.Frag} {p p1:aQ} {n:St} {F z:Hp} {e:Ev} {v:V} (h:jL K p n F e v) (s:aX F z) (sh:lG p p1):jL K p1 n z e v:=by
 cases e with
 | fz x=>exact Rep.mono s h
 | ow i=>exact ⟨let ⟨⟨s,h1,m⟩,_⟩:=h;sh.2 i s h1 m,h.2⟩
abbrev TQ:=aQ->(Ev->aQ->Prop)->Prop
abbrev TN:=aQ->(Rt->aQ->Prop)->Prop
abbrev m9:=aQ->(Bool->aQ->Prop)->Prop
abbrev TAQ:=aQ->(List Ev->aQ->Prop)->Prop
def Dq (p:aQ) (n:St) (a:Addr):Prop:=∀(i:Nat) (s:Sl),p[i]? = some (some s)->s.mu=true->n[i]?≠some (some (.ref a))
def Kz (C:Pc) (p:aQ) (n:St) (F H:Hp):Rt->V->Prop
 | .rd x,v=>Rep C.K F x v
 | .ro xs,v=>∃a vs,v=.ref a/\F a=none/\C.H0 a=none/\H a=some (.lst vs)/\aW C.K F xs vs/\Dq p n a
def XQ (C:Pc) (p:aQ) (z:St) (F:Hp) (R:Ev->aQ->Prop) (v:V) (B:Hp):Prop:=∃e p1 n,RS C p1 z n B/\aX F n/\lG p p1/\jL C.K p1 z n e v/\R e p1
def XN (C:Pc) (p:aQ) (z:St) (F:Hp) (R:Rt->aQ->Prop) (v:V) (B:Hp):Prop:=∃r p1 n,RS C p1 z n B/\aX F n/\lG p p1/\Kz C p1 z n B r v/\R r p1
def XT (C:Pc) (p:aQ) (z:St) (F:Hp) (R:Bool->aQ->Prop) (b:Bool) (B:Hp):Prop:=∃p1 n,RS C p1 z n B/\aX F n/\lG p p1/\R b p1
inductive nJ (K:PySem.W.Frag) (p:aQ) (σ:St) (F:Hp):List Ev->List V->Prop
 | nil:nJ K p σ F [] []
 | cons {e v es vs}:jL K p σ F e v->nJ K p σ F es vs->nJ K p σ F (e::es) (v::vs)
def XA (C:Pc) (p:aQ) (z:St) (F:Hp) (R:List Ev->aQ->Prop) (vs:List V) (B:Hp):Prop:=∃es p1 n,RS C p1 z n B/\aX F n/\lG p p1/\nJ C.K p1 z n es vs/\R es p1
def Up (C:Pc) (t:TQ):TE:=λσ H Q=>∃p F R,RS C p σ F H/\t p R/\∀v H1,XQ C p σ F R v H1->Q v H1
def nj (C:Pc) (t:TN):TE:=λσ H Q=>∃p F R,RS C p σ F H/\t p R/\∀v H1,XN C p σ F R v H1->Q v H1
def gB (C:Pc) (t:m9):TT:=λσ H Q=>∃p F R,RS C p σ F H/\t p R/\∀b H1,XT C p σ F R b H1->Q b H1
def iz (C:Pc) (t:TAQ):TA:=λσ H Q=>∃p F R,RS C p σ F H/\t p R/\∀vs H1,XA C p σ F R vs H1->Q vs H1
section
variable {X:Cx} {C:Pc} {p:aQ} {σ:St} {F H:Hp}
theorem QE.mk (h:PE X e t) (hi:∀p σ F H R,RS C p σ F H->t' p R->t σ H (XQ C p σ F R)):PE X e (Up C t'):=λpins s σ H Q I n=>by
 obtain ⟨p,F,R,z,D,J⟩:=n
 exact bu (h pins s σ H _ I (hi p σ F H R z D)) λ_ _ n=>by obtain ⟨v,H1,O,B,q1⟩:=n;exact ⟨v,H1,O,B,J v H1 q1⟩
theorem QN.mk (h:PE X e t) (hi:∀p σ F H R,RS C p σ F H->t' p R->t σ H (XN C p σ F R)):PE X e (nj C t'):=λpins s σ H Q I n=>by
 obtain ⟨p,F,R,z,D,J⟩:=n
 exact bu (h pins s σ H _ I (hi p σ F H R z D)) λ_ _ n=>by obtain ⟨v,H1,O,B,q1⟩:=n;exact ⟨v,H1,O,B,J v H1 q1⟩
theorem QT.mk (h:PT X e t) (hi:∀p σ F H R,RS C p σ F H->t' p R->t σ H (XT C p σ F R)):PT X e (gB C t'):=λpins s σ H Q I n=>by
 obtain ⟨p,F,R,z,B,D⟩:=n
 exact bu (h pins s σ H _ I (hi p σ F H R z B)) λ_ _ n=>by obtain ⟨H1,J,q1⟩:=n;exact ⟨H1,J,D _ H1 q1⟩
theorem QW.mk (h:PW X e t) (hi:∀p σ F H R,RS C p σ F H->t' p R->t σ H (XT C p σ F R)):PW X e (gB C t'):=λz pins s σ H Q I n=>by
 obtain ⟨p,F,R,B,D,J⟩:=n
 exact bu (h z pins s σ H _ I (hi p σ F H R B D)) λ_ _ n=>by obtain ⟨H1,O,q1⟩:=n;exact ⟨H1,O,J _ H1 q1⟩
theorem QA.mk (h:PA X es t) (hi:∀p σ F H R,RS C p σ F H->t' p R->t σ H (XA C p σ F R)):PA X es (iz C t'):=λpos pins s σ H Q I n=>by
 obtain ⟨p,F,R,z,D,J⟩:=n
 exact bu (h pos pins s σ H _ I (hi p σ F H R z D)) λ_ _ n=>by obtain ⟨vs,H1,O,B,q1⟩:=n;exact ⟨vs,H1,O,B,J vs H1 q1⟩
theorem up1 {D:TQ} {B:Ev->aQ->Prop} {Q:V->Hp->Prop} (rs:RS C p σ F H) (O:D p B)
  (k:∀e p1 v n H1,RS C p1 σ n H1->aX F n->lG p p1->jL C.K p1 σ n e v->B e p1->Q v H1):Up C D σ H Q:=
 ⟨p,F,B,rs,O,λv H1 I=>by obtain ⟨e,p1,n,z,J,sh,U,q⟩:=I;exact k e p1 v n H1 z J sh U q⟩
theorem qj {D:m9} {B:Bool->aQ->Prop} {Q:Bool->Hp->Prop} (rs:RS C p σ F H) (O:D p B)
  (k:∀b p1 n H1,RS C p1 σ n H1->aX F n->lG p p1->B b p1->Q b H1):gB C D σ H Q:=
 ⟨p,F,B,rs,O,λb H1 I=>by obtain ⟨p1,n,z,J,sh,q⟩:=I;exact k b p1 n H1 z J sh q⟩
theorem Q8 {B:TN} (rs:RS C p σ F H) (J:B p R1)
  (k:∀r p1 v n H1,RS C p1 σ n H1->aX F n->lG p p1->Kz C p1 σ n H1 r v->R1 r p1->Q v H1):nj C B σ H Q:=
 ⟨p,F,R1,rs,J,λv H1 D=>by obtain ⟨e,p1,n,z,I,sh,O,q⟩:=D;exact k e p1 v n H1 z I sh O q⟩
theorem eY {D:TAQ} {B:List Ev->aQ->Prop} {Q:List V->Hp->Prop} (rs:RS C p σ F H) (O:D p B)
  (k:∀es p1 vs n H1,RS C p1 σ n H1->aX F n->lG p p1->nJ C.K p1 σ n es vs->B es p1->Q vs H1):iz C D σ H Q:=
 ⟨p,F,B,rs,O,λv H1 I=>by obtain ⟨e,p1,n,z,J,sh,U,q⟩:=I;exact k e p1 v n H1 z J sh U q⟩
theorem rR {ta Z:TQ} {R:Ev->Ev->aQ->Prop} {Q:V->V->Hp->Prop} (rs:RS C p σ F H) (ht:ta p λe1 p1=>Z p1 λe2 p2=>R e1 e2 p2)
  (k:∀e1 e2 p1 D B z H1,RS C p1 σ z H1->aX F z->lG p p1->jL C.K p1 σ z e1 D->jL C.K p1 σ z e2 B->R e1 e2 p1->Q D B H1):Up C ta σ H λx H1=>Up C Z σ H1 λy H2=>Q x y H2:=
 up1 rs ht λe1 p1 D z H1 O s1 I Y q1=>up1 O q1 λe2 p2 B F2 H2 J s2 n U q2=>
  k e1 e2 p2 D B F2 H2 J (s1.trans s2) (I.trans n) (Y.mono s2 n) U q2
def adD:D->Bool
 | .lst _=>false
 | _=>true
theorem vH {e:Ev} {v:V} {x:D} (z:jL C.K p σ F e v) (h:lk p e=x) (n:adD x=true:=by rfl):Rep C.K F x v:=by
 cases e with
 | fz y=>exact (show y=x from h)▸z
 | ow j=>
  obtain ⟨⟨s,h1,m⟩,_⟩:=z
  dsimp only [lk] at h
  rw [h1] at h
  subst h
  cases s with
  | d x=>cases m
  | own xs=>cases n
  | bor xs=>cases n
theorem aY {e:Ev} {v:V} {i:Int} (n:jL C.K p σ F e v) (h:lk p e=.int i):v=.int i:=by cases vH n h;rfl
theorem p_ (n:jL C.K p σ F e v) (h:lk p e=.bl b):v=.bl b:=by cases vH n h;rfl
theorem Wn (n:jL C.K p σ F e v) (h:lk p e=.non):v=.non:=by cases vH n h;rfl
theorem bZ (n:jL C.K p σ F e v) (h:lk p e=.str b):v=.str b:=by cases vH n h;rfl
theorem dw (n:jL C.K p σ F e v) (h:lk p e=.atom w):v=w:=by cases vH n h;rfl
theorem jU (rs:RS C p σ F H) (z:jL C.K p σ F e v) (h:lk p e=.lst ds):∃a vs,v=.ref a/\H a=some (.lst vs)/\aW C.K F ds vs:=by
 cases e with
 | fz x=>
  dsimp only [lk] at h;subst h
  cases z with
  | lst q r=>exact ⟨_,_,rfl,rs.sub _ _ q,r⟩
 | ow j=>
  obtain ⟨⟨s,h1,m⟩,h2⟩:=z
  dsimp only [lk] at h
  rw [h1] at h
  obtain ⟨w,e1,sr⟩:=rs.sl j s h1
  rw [h2] at e1;cases e1
  cases s with
  | d x=>cases m
  | own xs=>
   obtain ⟨a,vs,rfl,_,_,n,r⟩:=sr
   cases h
   exact ⟨a,vs,rfl,n,r⟩
  | bor xs=>
   obtain ⟨a,vs,rfl,_,_,n,r⟩:=sr
   cases h
   exact ⟨a,vs,rfl,n,r⟩
theorem vI {e:Ev} {v:V} {ds:List D} (rs:RS C p σ F H) (n:jL C.K p σ F e v) (h:lk p e=.tup ds):∃a vs,v=.ref a/\H a=some (.tup vs)/\aW C.K F ds vs:=by
 cases vH n h with
 | tup q r=>exact ⟨_,_,rfl,rs.sub _ _ q,r⟩
theorem KC {ns:List Int} (rs:RS C p σ F H) (n:jL C.K p σ F e v) (h:lk p e=.p8 ns):∃a,v=.ref a/\jr C.K H a (ns.map V.int):=by
 cases vH n h with
 | p8 q=>exact ⟨_,rfl,rs.sub.seq q⟩
theorem KD {e:Ev} {v:V} {ks:List Key} {ds:List D} (rs:RS C p σ F H) (n:jL C.K p σ F e v) (h:lk p e=.uf ks ds):∃a vs,v=.ref a/\H a=some (.dK (ks.zip vs))/\ks.length=vs.length/\aW C.K F ds vs:=by
 cases vH n h with
 | uf q l r=>exact ⟨_,_,rfl,rs.sub _ _ q,l,r⟩
theorem Wo {e:Ev} {v:V} {n:Addr} (rs:RS C p σ F H) (z:jL C.K p σ F e v) (h:lk p e=.exc n):∃a,v=.ref a/\H a=some (XO a n):=by
 cases vH z h with
 | exc q=>exact ⟨_,rfl,rs.sub _ _ q⟩
theorem RS.laid (rs:RS C p σ F H) (O:H a=none):RS C p σ F (upd H a o):=by
 have sm:=cZ O o
 refine ⟨rs.sub.trans sm,rs.ext,rs.new,λb u e n=>sm b u (rs.keep b u e n),λb n e=>?_,rs.len,λi s e=>?_,rs.apart,rs.pin⟩
 ·have:=rs.grow b n
  cases q:H b with
  | none=>exact this q
  | some u=>rw [sm b u q] at e;cases e
 ·obtain ⟨v,e1,r⟩:=rs.sl i s e
  refine ⟨v,e1,?_⟩
  cases s with
  | d x=>exact r
  | own xs=>obtain ⟨b,vs,J,I,D,B,z⟩:=r;exact ⟨b,vs,J,I,D,sm _ _ B,z⟩
  | bor xs=>obtain ⟨b,vs,J,I,D,B,z⟩:=r;exact ⟨b,vs,J,I,D,sm _ _ B,z⟩
theorem RS.free {a:Addr} (rs:RS C p σ F H) (B:H a=none):F a=none/\C.H0 a=none/\Dq p σ a:=by
 refine ⟨rs.sub.free B,?_,λi s e m z=>?_⟩
 ·cases q:C.H0 a with
  | none=>rfl
  | some o=>exact absurd B (rs.grow a (by rw [q];intro w;cases w))
 ·obtain ⟨v,e1,r⟩:=rs.sl i s e
  rw [z] at e1;cases e1
  cases s with
  | d x=>cases m
  | own xs=>obtain ⟨b,vs,D,O,J,n,I⟩:=r;cases D;rw [B] at n;cases n
  | bor xs=>obtain ⟨b,vs,D,O,J,n,I⟩:=r;cases D;rw [B] at n;cases n
theorem RS.freeze (rs:RS C p σ F H) (Y:F a=none) (h0:C.H0 a=none) (U:H a=some o) (O:Dq p σ a):RS C p σ (upd F a o) H:=by
 have sm:=cZ Y o
 refine ⟨λb u e=>?_,rs.ext.trans sm,λb u e=>?_,rs.keep,rs.grow,rs.len,λi s e=>?_,rs.apart,rs.pin⟩
 ·by_cases n:b=a
  ·subst n;rw [aJ] at e;cases e;exact U
  ·rw [az n] at e;exact rs.sub b u e
 ·by_cases n:b=a
  ·subst n;exact .inr (.inl h0)
  ·rw [az n] at e;exact rs.new b u e
 ·obtain ⟨v,e1,r⟩:=rs.sl i s e
  refine ⟨v,e1,?_⟩
  cases s with
  | d x=>exact Rep.mono sm r
  | own xs=>
   obtain ⟨b,vs,rfl,J,I,D,B⟩:=r
   have n:b≠a:=λz=>O i _ e rfl (z▸e1)
   exact ⟨b,vs,rfl,by rw [az n];exact J,I,D,B.mono sm⟩
  | bor xs=>
   obtain ⟨b,vs,rfl,J,I,D,B⟩:=r
   have n:b≠a:=λz=>O i _ e rfl (z▸e1)
   exact ⟨b,vs,rfl,by rw [az n];exact J,I,D,B.mono sm⟩
theorem RS.put (rs:RS C p σ F H) (n:H a=none):RS C p σ (upd F a o) (upd H a o):=by
 obtain ⟨h1,h2,z⟩:=rs.free n
 exact (rs.laid (o:=o) n).freeze h1 h2 aJ z
theorem RS.write {s:Sl} (rs:RS C p σ F H) (Y:p[i]? = some (some s)) (m:s.mu=true) (hσ:σ[i]? = some (some (.ref a))) (hr:aW C.K F ys us) :
  RS C (p.set i (some (s.put ys))) σ F (upd H a (.lst us))/\lG p (p.set i (some (s.put ys))):=by
 have hi:i<p.length:=(zt.mp Y).1
 obtain ⟨v,e1,r⟩:=rs.sl i s Y
 rw [hσ] at e1;cases e1
 have fa:F a=none/\(C.H0 a=none\/∃q∈C.bs,q.2=a)/\∃vs,H a=some (.lst vs):=by
  cases s with
  | d x=>cases m
  | own xs=>obtain ⟨b,vs,e,B,I,J,U⟩:=r;cases e;exact ⟨B,.inl I,vs,J⟩
  | bor xs=>obtain ⟨b,vs,e,B,I,J,U⟩:=r;cases e;exact ⟨B,.inr I,vs,J⟩
 obtain ⟨fa,ha,vs0,hH⟩:=fa
 have hm:(s.put ys).mu=true:=by cases s<;>first|rfl|cases m
 refine ⟨⟨λb u e=>?_,rs.ext,rs.new,λb u e n=>?_,λb n e=>?_,by rw [yc];exact rs.len,λj s' e=>?_,λj k s1 s2 b hjk e1 m1 e2 m2 x1 x2=>?_,λq hq=>?_⟩,⟨yc,λj s' e m'=>?_⟩⟩
 ·rw [az (λz=>by rw [z,fa] at e;cases e)];exact rs.sub b u e
 ·have O:b≠a:=λz=>by
   subst z
   rcases ha with z|⟨q,hq,z⟩
   ·rw [z] at e;cases e
   ·exact n q hq z
  rw [az O];exact rs.keep b u e n
 ·by_cases O:b=a
  ·subst O;rw [aJ] at e;cases e
  ·rw [az O] at e;exact rs.grow b n e
 ·by_cases D:j=i
  ·subst D
   rw [zM hi] at e
   cases e
   refine ⟨.ref a,hσ,?_⟩
   cases s with
   | d x=>cases m
   | own xs=>obtain ⟨b,vs,e,B,I,J,U⟩:=r;cases e;exact ⟨a,us,rfl,fa,I,aJ,hr⟩
   | bor xs=>obtain ⟨b,vs,e,B,I,J,U⟩:=r;cases e;exact ⟨a,us,rfl,fa,I,aJ,hr⟩
  ·rw [zy (Ne.symm D)] at e
   obtain ⟨v,e1,r'⟩:=rs.sl j s' e
   refine ⟨v,e1,?_⟩
   cases s' with
   | d x=>exact r'
   | own xs=>
    obtain ⟨b,vs,rfl,B,I,J,U⟩:=r'
    have O:b≠a:=λz=>rs.apart j i _ _ a D e rfl Y m (z▸e1) hσ
    exact ⟨b,vs,rfl,B,I,by rw [az O];exact J,U⟩
   | bor xs=>
    obtain ⟨b,vs,rfl,B,I,J,U⟩:=r'
    have O:b≠a:=λz=>rs.apart j i _ _ a D e rfl Y m (z▸e1) hσ
    exact ⟨b,vs,rfl,B,I,by rw [az O];exact J,U⟩
 ·have back:∀(j:Nat) (s':Sl),(p.set i (some (s.put ys)))[j]? = some (some s')->∃Z,p[j]? = some (some Z)/\(s'.mu=true->Z.mu=true):=λj s' e=>by
   by_cases D:j=i
   ·subst D;exact ⟨s,Y,λ_=>m⟩
   ·rw [zy (Ne.symm D)] at e;exact ⟨s',e,id⟩
  obtain ⟨t1,f1,g1⟩:=back j s1 e1
  obtain ⟨t2,f2,g2⟩:=back k s2 e2
  exact rs.apart j k t1 t2 b hjk f1 (g1 m1) f2 (g2 m2) x1 x2
 ·obtain ⟨z1,xs,B⟩:=rs.pin q hq
  refine ⟨z1,?_⟩
  by_cases D:q.1=i
  ·rw [D] at B ⊢
   rw [Y] at B;cases B
   exact ⟨ys,by rw [zM hi];rfl⟩
  ·exact ⟨xs,by rw [zy (Ne.symm D)];exact B⟩
 ·by_cases D:j=i
  ·subst D;exact ⟨_,zM hi,hm⟩
  ·exact ⟨s',by rw [zy (Ne.symm D)];exact e,m'⟩
end
section
variable {X:Cx} {C:Pc} {a b c e:Expr} {ta tb tc:TQ} {pos:Pos} {K:PySem.W.Frag}
def Q9 (i:Nat):TQ:=λp Q=>∃s,p[i]? = some (some s)/\Q (s.ev i) p
theorem aaa {i:Nat} (h:PE X e (xR i)):PE X e (Up C (Q9 i)):=QE.mk h λp σ F H R n z=>by
 obtain ⟨s,e1,q⟩:=z
 obtain ⟨v,e2,r⟩:=n.sl i s e1
 refine ⟨v,e2,s.ev i,p,F,n,.refl _,.refl _,?_,q⟩
 cases s with
 | d x=>exact r
 | own xs=>exact ⟨⟨_,e1,rfl⟩,e2⟩
 | bor xs=>exact ⟨⟨_,e1,rfl⟩,e2⟩
def qC (x:D):TQ:=λp Q=>Q (.fz x) p
theorem oW {v:V} {x:D} (h:PE X e (tC v)) (r:∀F,Rep C.K F x v):PE X e (Up C (qC x)):=QE.mk h λp σ F H R n q=>⟨.fz x,p,F,n,.refl _,.refl _,r F,q⟩
def q2 (Cn:Int->Int->Prop) (g:Int->Int->D) (z n:TQ):TQ:=λp Q=>z p λe1 p1=>n p1 λe2 p2=>∃i j,lk p2 e1=.int i/\lk p2 e2=.int j/\Cn i j/\Q (.fz (g i j)) p2
def KH (g:Int->Int->D) (z n:TQ):TQ:=λp Q=>z p λe1 p1=>n p1 λe2 p2=>∃i j,lk p2 e1=.int i/\lk p2 e2=.int j/\Q (.fz (g i j)) p2
theorem bw {p p1:aQ} {z:St} {F n H1:Hp} {R:Ev->aQ->Prop} {x:D} {v:V} (rs:RS C p1 z n H1) (B:aX F n) (sh:lG p p1) (r:Rep C.K n x v) (q:R (.fz x) p1):XQ C p z F R v H1:=⟨.fz x,p1,n,rs,B,sh,r,q⟩
theorem Q_ (U:iB X (binaryOp op) (rI Cn gv)) (Y:∀i j F,Rep C.K F (g i j) (gv i j)) (ha:PE X a (Up C ta)) (Z:PE X b (Up C tb)) :
  PE X (.BinOp a op b pos) (Up C (q2 Cn g ta tb)):=
 QE.mk (ur U ha Z) λp σ F H R J O=>rR J O λe1 e2 p1 v1 v2 F1 H1 n I sh B z D=>by obtain ⟨i,j,h1,h2,c,q⟩:=D;exact ⟨i,j,aY B h1,aY z h2,c,bw n I sh (Y i j F1) q⟩
theorem KJ (U:iB X (binaryOp op) (CK gv)) (Y:∀i j F,Rep C.K F (g i j) (gv i j)) (ha:PE X a (Up C ta)) (Z:PE X b (Up C tb)) :
  PE X (.BinOp a op b pos) (Up C (KH g ta tb)):=
 QE.mk (ur U ha Z) λp σ F H R J O=>rR J O λe1 e2 p1 v1 v2 F1 H1 n I sh B z D=>by obtain ⟨i,j,h1,h2,q⟩:=D;exact ⟨i,j,aY B h1,aY z h2,bw n I sh (Y i j F1) q⟩
theorem cT (z:PE X a (Up C ta)) (n:PE X b (Up C tb)):PE X (.BinOp a .Add b pos) (Up C (KH (λi j=>.int (i+j)) ta tb)):=KJ VF (λ_ _ _=>.int _) z n
theorem bV (z:PE X a (Up C ta)) (n:PE X b (Up C tb)):PE X (.BinOp a .Sub b pos) (Up C (KH (λi j=>.int (i - j)) ta tb)):=KJ VG (λ_ _ _=>.int _) z n
theorem jV (z:PE X a (Up C ta)) (n:PE X b (Up C tb)):PE X (.BinOp a .Mult b pos) (Up C (q2 CN (λi j=>.int (i * j)) ta tb)):=Q_ VH (λ_ _ _=>.int _) z n
def Fits (j:Int):Prop:=j.natAbs.log2<9000
theorem Fits.of {j:Int} {n:Nat} (h0:0<j) (h:j<2 ^ n) (z:n<=9000):Fits j:=by
 unfold Fits
 have h1:j.natAbs<2 ^ n:=by
  have:((j.natAbs:Nat):Int)=j:=by omega
  have h2:((j.natAbs:Nat):Int)<((2 ^ n:Nat):Int):=by rw [this];push_cast;exact h
  exact_mod_cast h2
 have h2:j.natAbs≠0:=by omega
 exact zI ((Nat.log2_lt h2).mpr h1) z
def FP (i j:Int):Prop:=0<j/\(j<2 ^ 64\/Fits j)
theorem KN:iB X (binaryOp .FloorDiv) (rI FP λi j=>.int (i / j)):=λpins s σ H x y v u Q I J D ⟨i,j,h1,h2,⟨B,z⟩,q⟩=>JZ pins s σ H x y v u Q I J D ⟨i,j,h1,h2,⟨B,by
 rcases z with z|z
 ·exact Fits.of (n:=64) B z (by decide)
 ·exact z⟩,q⟩
theorem iM (z:PE X a (Up C ta)) (n:PE X b (Up C tb)):PE X (.BinOp a .FloorDiv b pos) (Up C (q2 FP (λi j=>.int (i / j)) ta tb)):=Q_ KN (λ_ _ _=>.int _) z n
def Wq (i j:Int):Prop:=0<j
theorem nM (z:PE X a (Up C ta)) (n:PE X b (Up C tb)):PE X (.BinOp a .Mod b pos) (Up C (q2 Wq (λi j=>.int (i % j)) ta tb)):=Q_ (Cn:=Wq) VJ (λ_ _ _=>.int _) z n
theorem FQ (z:PE X a (Up C ta)) (n:PE X b (Up C tb)):PE X (.BinOp a .Pow b pos) (Up C (q2 VD (λi j=>.int (i ^ j.toNat)) ta tb)):=Q_ VL (λ_ _ _=>.int _) z n
theorem aab (z:PE X a (Up C ta)) (n:PE X b (Up C tb)):PE X (.BinOp a .BitAnd b pos) (Up C (KH (λi j=>.int (Builtin.bitAnd i j)) ta tb)):=KJ VM (λ_ _ _=>.int _) z n
def q1 (g:Int->D) (n:TQ):TQ:=λp Q=>n p λe1 p1=>∃i,lk p1 e1=.int i/\Q (.fz (g i)) p1
def gm (t:TQ):m9:=λp Q=>t p λe p1=>∃b,lk p1 e=.bl b/\Q b p1
theorem FT {z:CmpOp} {J:Int->Int->Bool} (ho:iB X (compareOp z) (CK λi j=>.bl (J i j))) (hm:behindInMarks z b=false) (ha:PE X a (Up C ta)) (B:PE X b (Up C tb)) :
  PT X (.Compare a [z] [b] pos) (gB C (gm (KH (λi j=>.bl (J i j)) ta tb))):=
 QT.mk (fY ho ha B hm) λp σ F H R Y Z=>rR Y Z λe1 e2 p1 v1 v2 F1 H1 n U sh I D O=>by obtain ⟨i,j,h1,h2,b,B,q⟩:=O;exact ⟨i,j,aY I h1,aY D h2,b,by cases B;rfl,p1,F1,n,U,sh,q⟩
theorem rT (z:PE X a (Up C ta)) (n:PE X b (Up C tb)):PT X (.Compare a [.Lt] [b] pos) (gB C (gm (KH (λi j=>.bl (decide (i<j))) ta tb))):=FT ZJ (gF _) z n
theorem adE (z:PE X a (Up C ta)) (n:PE X b (Up C tb)):PT X (.Compare a [.LtE] [b] pos) (gB C (gm (KH (λi j=>.bl (decide (i<=j))) ta tb))):=FT rF (gF _) z n
theorem HX (z:PE X a (Up C ta)) (n:PE X b (Up C tb)):PT X (.Compare a [.Gt] [b] pos) (gB C (gm (KH (λi j=>.bl (decide (j<i))) ta tb))):=FT ZK (gF _) z n
theorem Dr (z:PE X a (Up C ta)) (n:PE X b (Up C tb)):PT X (.Compare a [.GtE] [b] pos) (gB C (gm (KH (λi j=>.bl (decide (j<=i))) ta tb))):=FT ZL (gF _) z n
noncomputable def Ao (x y:D):Bool:=@decide (x=y) (Classical.propDecidable _)
inductive jF:D->D->Prop
 | int (i j:Int):jF (.int i) (.int j)
 | bl (i j:Bool):jF (.bl i) (.bl j)
 | str (i j:Str):jF (.str i) (.str j)
theorem FW (i j:Int):Ao (.int i) (.int j)=decide (i=j):=decide_eq_decide.mpr (iff_of_eq (D.int.injEq i j))
theorem KQ (i j:Bool):Ao (.bl i) (.bl j)=decide (i=j):=decide_eq_decide.mpr (iff_of_eq (D.bl.injEq i j))
theorem FZ (i j:Str):Ao (.str i) (.str j)=decide (i=j):=decide_eq_decide.mpr (iff_of_eq (D.str.injEq i j))
theorem KR (x:D):Ao x x=true:=by unfold Ao;simp
theorem Ra (i j:Int):jF (.int i) (.int j)=True:=eq_true (.int i j)
theorem Wr (i j:Bool):jF (.bl i) (.bl j)=True:=eq_true (.bl i j)
theorem Rb (i j:Str):jF (.str i) (.str j)=True:=eq_true (.str i j)
theorem vJ {x y:D} {Z Y:Ev} {U O:V} {p:aQ} {J:St} {F:Hp} (d:jF x y) (z:jL C.K p J F Z U) (n:jL C.K p J F Y O) (I:lk p Z=x) (B:lk p Y=y):Jz U O (Ao x y):=by
 cases d with
 | int i j=>rw [aY z I,aY n B,FW];exact .int i j
 | bl i j=>rw [p_ z I,p_ n B,KQ];exact .bl i j
 | str i j=>rw [bZ z I,bZ n B,FZ];exact .str i j
def Zf (f:Bool->Bool) (z n:TQ):TQ:=λp Q=>z p λe1 p1=>n p1 λe2 p2=>jF (lk p2 e1) (lk p2 e2)/\Q (.fz (.bl (f (Ao (lk p2 e1) (lk p2 e2))))) p2
theorem HY (hK:X.K=C.K) (hu:X.A.units+64<cLine) (Y:PE X a (Up C ta)) (U:PE X b (Up C tb)):PE X (.Compare a [.Eq] [b] pos) (Up C (Zf (λk=>k) ta tb)):=
 QE.mk (vf Tu Y U (gF _)) λp σ F H R J O=>rR J O λe1 e2 p1 v1 Z F1 H1 n I sh B z D=>by obtain ⟨d,q⟩:=D;exact ⟨_,vJ d B z rfl rfl,bw n I sh (.bl _) q⟩
theorem adF (hK:X.K=C.K) (hu:X.A.units+64<cLine) (Y:PE X a (Up C ta)) (U:PE X b (Up C tb)):PE X (.Compare a [.NotEq] [b] pos) (Up C (Zf (λk=>!k) ta tb)):=
 QE.mk (vf Tv Y U (gF _)) λp σ F H R J O=>rR J O λe1 e2 p1 v1 Z F1 H1 n I sh B z D=>by obtain ⟨d,q⟩:=D;exact ⟨_,vJ d B z rfl rfl,bw n I sh (.bl _) q⟩
theorem dh (hK:X.K=C.K) (hu:X.A.units+64<cLine) (Z:PE X a (Up C ta)) (Y:PE X b (Up C tb)):PT X (.Compare a [.Eq] [b] pos) (gB C (gm (Zf (λk=>k) ta tb))):=
 QT.mk (fY Tu Z Y (gF _)) λp σ F H R J O=>rR J O λe1 e2 p1 v1 v2 F1 H1 n I sh B z D=>by obtain ⟨d,k,U,q⟩:=D;exact ⟨_,vJ d B z rfl rfl,k,by cases U;rfl,p1,F1,n,I,sh,q⟩
theorem Ws (hK:X.K=C.K) (hu:X.A.units+64<cLine) (Z:PE X a (Up C ta)) (Y:PE X b (Up C tb)):PT X (.Compare a [.NotEq] [b] pos) (gB C (gm (Zf (λk=>!k) ta tb))):=
 QT.mk (fY Tv Z Y (gF _)) λp σ F H R J O=>rR J O λe1 e2 p1 v1 v2 F1 H1 n I sh B z D=>by obtain ⟨d,k,U,q⟩:=D;exact ⟨_,vJ d B z rfl rfl,k,by cases U;rfl,p1,F1,n,I,sh,q⟩
def isN:D->Bool
 | .non=>true
 | .atom v=>decide (v=.non)
 | _=>false
theorem KY (rs:RS C p σ F H) (n:jL C.K p σ F e1 v):decide (v=.non)=isN (lk p e1):=by
 cases e1 with
 | fz x=>cases (show Rep C.K F x v from n)<;>rfl
 | ow i=>
  obtain ⟨⟨s,h1,m⟩,h2⟩:=n
  obtain ⟨w,e1,sr⟩:=rs.sl i s h1
  rw [h2] at e1;cases e1
  show _=isN (match p[i]? with|some (some s)=>s.val|_=>.non)
  rw [h1]
  cases s with
  | d x=>cases m
  | own xs=>obtain ⟨a,vs,rfl,_⟩:=sr;rfl
  | bor xs=>obtain ⟨a,vs,rfl,_⟩:=sr;rfl
def Rc (f:Bool->Bool) (n:TQ):TQ:=λp Q=>n p λe1 p1=>Q (.fz (.bl (f (isN (lk p1 e1))))) p1
theorem aad {j pos'} (U:PE X a (Up C ta)):PT X (.Compare a [.Is] [.Constant .none j pos'] pos) (gB C (gm (Rc (λk=>k) ta))):=
 QT.mk (Cz (Vl U)) λp σ F H R I J=>up1 I J λe1 p1 Z Y H1 n D sh z B=>by obtain ⟨k,O,q⟩:=B;exact ⟨k,by cases O;rw [KY n z],p1,Y,n,D,sh,q⟩
theorem KZ {j pos'} (U:PE X a (Up C ta)):PT X (.Compare a [.IsNot] [.Constant .none j pos'] pos) (gB C (gm (Rc (λk=>!k) ta))):=
 QT.mk (Cz (Qi U)) λp σ F H R I J=>up1 I J λe1 p1 Z Y H1 n D sh z B=>by obtain ⟨k,O,q⟩:=B;exact ⟨k,by cases O;rw [KY n z],p1,Y,n,D,sh,q⟩
def Ds (f g:Int->Int->Bool) (D B z:TQ):TQ:=λp Q=>D p λe1 p1=>B p1 λe2 p2=>∃i j,lk p2 e1=.int i/\lk p2 e2=.int j /\
 if f i j=true then z p2 λI n=>∃k,lk n I=.int k/\Q (.fz (.bl (g j k))) n else Q (.fz (.bl false)) p2
theorem d7 {c:Prop} [Decidable c] {A B z B':Prop} (I:A->z) (D:B->B') (h:if c then A else B):if c then z else B':=by
 by_cases n:c
 ·rw [zm n] at h ⊢;exact I h
 ·rw [zi n] at h ⊢;exact D h
theorem vK (ho:iB X (compareOp op) (CK λi j=>.bl (f i j))) (J:iB X (compareOp op') (CK λi j=>.bl (g i j))) (ha:PE X a (Up C ta)) (hb:PE X b (Up C tb)) (hc:PE X c (Up C tc))
  (hm:lastMarks [op,op'] [b,c]=false:=by with_unfolding_all rfl):PT X (.Compare a [op,op'] [b,c] pos) (gB C (gm (Ds f g ta tb tc))):=
 QT.mk (JB ho J ha hb hc hm) λp σ F H R rs ht=>rR rs ht λe1 e2 p1 v1 v2 F1 H1 n Z sh Y z B=>by
  obtain ⟨i,j,h1,h2,q⟩:=B
  refine ⟨i,j,aY Y h1,aY z h2,f i j,rfl,?_⟩
  refine d7 (λq=>?_) (λq=>?_) q
  ·refine up1 n q λe3 p3 v3 F3 H3 I s3 D U B=>?_
   obtain ⟨k,h3,l,O,q3⟩:=B
   refine ⟨j,k,aY z h2,aY U h3,l,by cases O;rfl,p3,F3,I,Z.trans s3,sh.trans D,q3⟩
  ·obtain ⟨l,O,q⟩:=q
   exact ⟨l,by cases O;rfl,p1,F1,n,Z,sh,q⟩
variable {tA Qj:m9} {rest:List Expr}
theorem gP {t : TQ} (h : PE X e (Up C t)) (he : ∀ whole, isTrue e X.env whole = (do let v ← whole; standAt e.pos; holding [v] (truthy v)) := by intro _; rfl) : PT X e (gB C (gm t)) :=
  QT.mk (Vn h he) λp σ F H R D I => up1 D I λe1 p1 U O H1 n B sh z ⟨k, J, q⟩ => ⟨k, p_ z J, p1, O, n, B, sh, q⟩
def Wt (t u:m9):m9:=λp Q=>t p λc p1=>if c=true then u p1 Q else Q false p1
def qOr (t u:m9):m9:=λp Q=>t p λc p1=>if c=true then Q true p1 else u p1 Q
def Wu (t:m9):m9:=λp Q=>t p λc p1=>Q (!c) p1
theorem Dt (n:PT X a (gB C tA)):PW X (.BoolOp .And [a] pos) (gB C tA):=pw_and1 n
theorem uF (n:PT X a (gB C tA)):PW X (.BoolOp .Or [a] pos) (gB C tA):=pw_or1 n
theorem w_and (Y:PT X a (gB C tA)) (U:PW X (.BoolOp .And (b::rest) pos) (gB C Qj)):PW X (.BoolOp .And (a::b::rest) pos) (gB C (Wt tA Qj)):=
 QW.mk (pw_and Y U) λp σ F H R J O=>qj J O λk p1 F1 H1 n D sh q=>d7 (λq=>qj n q λk2 p2 Z H2 B I z q2=>⟨p2,Z,B,D.trans I,sh.trans z,q2⟩) (λq=>⟨p1,F1,n,D,sh,q⟩) q
theorem w_or (Y:PT X a (gB C tA)) (U:PW X (.BoolOp .Or (b::rest) pos) (gB C Qj)):PW X (.BoolOp .Or (a::b::rest) pos) (gB C (qOr tA Qj)):=
 QW.mk (pw_or Y U) λp σ F H R J O=>qj J O λk p1 F1 H1 n D sh q=>d7 (λq=>⟨p1,F1,n,D,sh,q⟩) (λq=>qj n q λk2 p2 Z H2 B I z q2=>⟨p2,Z,B,D.trans I,sh.trans z,q2⟩) q
theorem iC (I:PT X a (gB C tA)):PT X (.UnaryOp .Not a pos) (gB C (Wu tA)):=
 QT.mk (Vo I) λp σ F H R B D=>qj B D λk p1 J H1 n z sh q=>⟨p1,J,n,z,sh,q⟩
def K1 (z n:TQ):TQ:=λp Q=>z p λe p1=>∃c,lk p1 e=.bl c/\if c=true then n p1 Q else Q (.fz (.bl false)) p1
def Wv (z n:TQ):TQ:=λp Q=>z p λe p1=>∃c,lk p1 e=.bl c/\if c=true then Q (.fz (.bl true)) p1 else n p1 Q
def K3 (n:TQ):TQ:=λp Q=>n p λe p1=>∃c,lk p1 e=.bl c/\Q (.fz (.bl (!c))) p1
theorem T6 {op} (h:PE X a (Up C ta)):PE X (.BoolOp op [a] pos) (Up C ta):=Vp h
theorem Ww (ha:PE X a (Up C ta)) (hb:PE X (.BoolOp .And (b::rest) pos) (Up C tb)):PE X (.BoolOp .And (a::b::rest) pos) (Up C (K1 ta tb)):=
 QE.mk (Vq ha hb) λp σ F H R Y Z=>up1 Y Z λe1 p1 v1 F1 H1 n J sh I O=>by obtain ⟨k,hk,q⟩:=O;exact ⟨k,p_ I hk,d7 (λq=>up1 n q λe2 p2 v2 F2 H2 B U z D q2=>⟨e2,p2,F2,B,J.trans U,sh.trans z,D,q2⟩) (λq=>bw n J sh (.bl _) q) q⟩
theorem aae (ha:PE X a (Up C ta)) (hb:PE X (.BoolOp .Or (b::rest) pos) (Up C tb)):PE X (.BoolOp .Or (a::b::rest) pos) (Up C (Wv ta tb)):=
 QE.mk (Zr ha hb) λp σ F H R Y Z=>up1 Y Z λe1 p1 v1 F1 H1 n J sh I O=>by obtain ⟨k,hk,q⟩:=O;exact ⟨k,p_ I hk,d7 (λq=>bw n J sh (.bl _) q) (λq=>up1 n q λe2 p2 v2 F2 H2 B U z D q2=>⟨e2,p2,F2,B,J.trans U,sh.trans z,D,q2⟩) q⟩
theorem Wx (U:PE X a (Up C ta)):PE X (.UnaryOp .Not a pos) (Up C (K3 ta)):=
 QE.mk (Vr U) λp σ F H R I J=>up1 I J λe1 p1 Y Z H1 n D sh z B=>by obtain ⟨k,O,q⟩:=B;exact ⟨k,p_ z O,bw n D sh (.bl _) q⟩
def qIf (t:m9) (z n:TQ):TQ:=λp Q=>t p λc p1=>if c=true then z p1 Q else n p1 Q
theorem jt (hc:PT X c (gB C tA)) (ha:PE X a (Up C ta)) (hb:PE X b (Up C tb)):PE X (.IfExp c a b pos) (Up C (qIf tA ta tb)):=
 QE.mk (Jq hc ha hb) λp σ F H R Y Z=>qj Y Z λk p1 F1 H1 D O sh q=>
  d7 (λq=>up1 D q λe2 p2 U J H2 z I n B q2=>⟨e2,p2,J,z,O.trans I,sh.trans n,B,q2⟩) (λq=>up1 D q λe2 p2 U J H2 z I n B q2=>⟨e2,p2,J,z,O.trans I,sh.trans n,B,q2⟩) q
def qFz (t:TN):TQ:=λp Q=>t p λr p1=>Q (.fz r.val) p1
theorem Kz.fz {r:Rt} {v:V} {p:aQ} {n:St} {F H:Hp} (rs:RS C p n F H) (h:Kz C p n F H r v):∃z,RS C p n z H/\aX F z/\Rep C.K z r.val v:=by
 cases r with
 | rd x=>exact ⟨F,rs,.refl _,h⟩
 | ro xs=>
  obtain ⟨a,vs,rfl,h1,h2,I,D,B⟩:=h
  exact ⟨_,rs.freeze h1 h2 I B,cZ h1 _,.lst aJ (D.mono (cZ h1 _))⟩
theorem ak {t:TN} (h:PE X e (nj C t)):PE X e (Up C (qFz t)):=
 QE.mk h λp σ F H R I U=>Q8 I U λr p1 Y F1 H1 z D sh J q=>by
  obtain ⟨Z,n,B,O⟩:=J.fz z
  exact bw n (D.trans B) sh O q
def Rf (t:TQ):TN:=λp Q=>t p λe p1=>∃x,e=.fz x/\Q (.rd x) p1
theorem i_ {t:TQ} (h:PE X e (Up C t)):PE X e (nj C (Rf t)):=
 QN.mk h λp σ F H R I O=>up1 I O λe1 p1 Y U H1 n D sh z B=>by obtain ⟨x,J,q⟩:=B;exact ⟨.rd x,p1,U,n,D,sh,by subst J;exact z,q⟩
variable {es:List Expr} {cR:TAQ}
def H_:TAQ:=λp Q=>Q [] p
def lO (z:TQ) (n:TAQ):TAQ:=λp Q=>z p λx p1=>n p1 λxs p2=>Q (x::xs) p2
theorem dY:PA X [] (iz C H_):=QA.mk JF λp σ F H R n q=>⟨[],p,F,n,.refl _,.refl _,.nil,q⟩
theorem aN (ha:PE X e (Up C ta)) (hr:PA X es (iz C cR)) (hs:starEach (e::es) X.env=(false,eval e X.env)::starEach es X.env:=by rfl):PA X (e::es) (iz C (lO ta cR)):=
 QA.mk (vm ha hr hs) λp σ F H R Z ht=>up1 Z ht λe1 p1 v1 F1 H1 B Y sh J q=>eY B q λD p2 U F2 H2 z O n I q2=>
  ⟨e1::D,p2,F2,z,Y.trans O,sh.trans n,.cons (J.mono O n) I,q2⟩
def P_:List Ev->Option (List D)
 | []=>some []
 | .fz x::r=>match P_ r with
  | some xs=>some (x::xs)
  | none=>none
 | .ow _::_=>none
theorem rW:∀{es:List Ev} {vs:List V} {xs:List D},nJ C.K p σ F es vs->P_ es=some xs->aW C.K F xs vs
 | _,_,_,.nil,h=>by cases h;exact .nil
 | .fz x::r,_,xs,.cons h1 h2,h=>by
  unfold P_ at h
  cases e:P_ r with
  | none=>rw [e] at h;cases h
  | some ys=>rw [e] at h;cases h;exact .cons h1 (rW h2 e)
 | .ow i::r,_,xs,.cons h1 h2,h=>by cases h
def Wy (t:TAQ):TN:=λp Q=>t p λes p1=>∃xs,P_ es=some xs/\xs.length<=100000/\Q (.ro xs) p1
theorem ju (h:n<=100000):n<=sizeLine:=zQ h (by decide)
theorem iD {p p1:aQ} {B:St} {F n z:Hp} {R:Rt->aQ->Prop} {xs:List D} {vs:List V} {a:Addr} (rs:RS C p1 B n z) (J:aX F n) (sh:lG p p1) (I:z a=none) (r:aW C.K n xs vs) (q:R (.ro xs) p1):XN C p B F R (.ref a) (upd z a (.lst vs)):=by
 obtain ⟨h1,h2,O⟩:=rs.free I
 exact ⟨.ro xs,p1,n,rs.laid I,J,sh,⟨a,vs,rfl,h1,h2,aJ,r,O⟩,q⟩
theorem bG (h:PA X es (iz C cR)):PE X (.List es pos) (nj C (Wy cR)):=
 QN.mk (JG h) λp σ F H R J U=>eY J U λes1 p1 D F1 H1 n I sh z B=>by
  obtain ⟨xs,O,Y,q⟩:=B
  have r:=rW z O
  exact ⟨ju (by rw [<-r.length];exact Y),λa Z=>iD n I sh Z r q⟩
def WD (t:TAQ):TQ:=λp Q=>t p λes p1=>∃xs,P_ es=some xs/\xs.length<=100000/\Q (.fz (.tup xs)) p1
theorem eO {x1} (h:PA X es (iz C cR)):PE X (.Tuple es x1 pos) (Up C (WD cR)):=
 QE.mk (V0 h) λp σ F H R O Y=>eY O Y λes1 p1 I F1 H1 n J sh z D=>by
  obtain ⟨xs,U,Z,q⟩:=D
  have r:=rW z U
  refine ⟨ju (by rw [<-r.length];exact Z),λa B=>?_⟩
  obtain ⟨h1,h2,h3⟩:=n.free B
  exact bw (n.put B) (J.trans (cZ h1 _)) sh (.tup aJ (r.mono (cZ h1 _))) q
end
def Aq:D->Option (List D)
 | .lst ds=>some ds
 | .tup ds=>some ds
 | .p8 ns=>some (ns.map D.int)
 | _=>none
def WK:D->Option (List D)
 | .lst ds=>some ds
 | .p8 ns=>some (ns.map D.int)
 | _=>none
def fL (p:aQ) (i:Nat):Option (List D):=match p[i]? with
 | some (some (.own xs))=>some xs
 | some (some (.bor xs))=>some xs
 | _=>none
def putL (p:aQ) (i:Nat) (n:List D):aQ:=match p[i]? with
 | some (some s)=>p.set i (some (s.put n))
 | _=>p
def cut {α:Type} (xs:List α) (lo hi:Option Int):List α:=(xs.drop (HT.xJ xs.length 0 lo)).take (HT.xJ xs.length xs.length hi - HT.xJ xs.length 0 lo)
section
variable {X:Cx} {C:Pc} {a b c e:Expr} {ta tb tc:TQ} {pos:Pos} {K:PySem.W.Frag} {p:aQ} {σ:St} {F H:Hp}
theorem aW.at {ds:List D} {vs:List V} {k:Int} {x:D} (r:aW K F ds vs) (h:iy ds k=some x):∃v,iy vs k=some v/\Rep K F x v:=by
 unfold iy at h ⊢
 rw [r.length] at h
 cases e:Ab vs.length k with
 | none=>rw [e] at h;cases h
 | some j=>rw [e] at h;exact r.get h
theorem aW.cut (r:aW K F ds vs) (lo hi:Option Int):aW K F (cut ds lo hi) (HF vs lo hi):=by
 unfold L2.cut HF
 rw [r.length]
 exact (r.drop _).take _
theorem K4 (rs:RS C p σ F H) (z:jL C.K p σ F e1 v) (h:Aq (lk p e1)=some ds):∃a vs,v=.ref a/\(jr C.K H a vs\/Cr C.K H a vs)/\aW C.K F ds vs:=by
 cases e:lk p e1 with
 | lst xs=>rw [e] at h;cases h;obtain ⟨a,vs,h1,h2,n⟩:=jU rs z e;exact ⟨a,vs,h1,.inl (.of h2),n⟩
 | tup xs=>rw [e] at h;cases h;obtain ⟨a,vs,h1,h2,n⟩:=vI rs z e;exact ⟨a,vs,h1,.inr (.of h2),n⟩
 | p8 ns=>rw [e] at h;cases h;obtain ⟨a,h1,h2⟩:=KC rs z e;exact ⟨a,_,h1,.inl h2,.qJ ns⟩
 | _=>rw [e] at h;cases h
theorem aaf {n:Ev} {v:V} {ds:List D} (rs:RS C p σ F H) (z:jL C.K p σ F n v) (h:WK (lk p n)=some ds):∃a vs,v=.ref a/\jr C.K H a vs/\aW C.K F ds vs:=by
 cases e:lk p n with
 | lst xs=>rw [e] at h;cases h;obtain ⟨a,vs,h1,h2,B⟩:=jU rs z e;exact ⟨a,vs,h1,.of h2,B⟩
 | p8 ns=>rw [e] at h;cases h;obtain ⟨a,h1,h2⟩:=KC rs z e;exact ⟨a,_,h1,h2,.qJ ns⟩
 | _=>rw [e] at h;cases h
def qIx (z n:TQ):TQ:=λp Q=>z p λe1 p1=>n p1 λe2 p2=>∃ds k x,Aq (lk p2 e1)=some ds/\lk p2 e2=.int k/\iy ds k=some x/\Q (.fz x) p2
theorem Rg (h:X.K=K):P0 X (λx y H Q=>V2 K x y H Q\/ZV K x y H Q):=by subst h;exact Fq.or V3
theorem pB (hK:X.K=C.K) (ha:PE X a (Up C ta)) (hb:PE X b (Up C tb)) (Z:nG b):PE X (.Subscript a b pos) (Up C (qIx ta tb)):=
 QE.mk (JM (Rg hK) ha hb Z) λp σ F H R U Y=>rR U Y λe1 e2 p1 v1 v2 F1 H1 n D sh B z O=>by
  obtain ⟨ds,k,x,h1,h2,h3,q⟩:=O
  obtain ⟨a1,vs,rfl,g,r⟩:=K4 n B h1
  obtain ⟨v,J,I⟩:=r.at h3
  rw [aY z h2]
  rcases g with g|g
  ·exact .inl ⟨a1,vs,k,v,rfl,rfl,g,J,bw n D sh I q⟩
  ·exact .inr ⟨a1,vs,k,v,rfl,rfl,g,J,bw n D sh I q⟩
abbrev TOQ:=aQ->(Option Int->aQ->Prop)->Prop
def UpO (C:Pc) (t:TOQ):TO:=λσ H Q=>∃p F R,RS C p σ F H/\t p R/\∀o H1,(∃p1 n,RS C p1 σ n H1/\aX F n/\lG p p1/\R o p1)->Q o H1
def Du:TOQ:=λp Q=>Q none p
def Dv (t:TQ):TOQ:=λp Q=>t p λe p1=>∃i,lk p1 e=.int i/\Q (some i) p1
theorem QO.mk {e:Option Expr} (h:PO X e t) (hi:∀p σ F H R,RS C p σ F H->t' p R->t σ H (λo H1=>∃p1 F1,RS C p1 σ F1 H1/\aX F F1/\lG p p1/\R o p1)):PO X e (UpO C t'):=λpins s σ H Q I n=>by
 obtain ⟨p,F,R,z,D,J⟩:=n
 exact bu (h pins s σ H _ I (hi p σ F H R z D)) λ_ _ n=>by obtain ⟨o,H1,O,B,q1⟩:=n;exact ⟨o,H1,O,B,J o H1 q1⟩
theorem WL:PO X none (UpO C Du):=QO.mk Qy λp σ F H R n q=>⟨p,F,n,.refl _,.refl _,q⟩
theorem WM (h:PE X e (Up C ta)):PO X (some e) (UpO C (Dv ta)):=QO.mk (Qz h) λp σ F H R I J=>up1 I J λe1 p1 U O H1 n D sh z B=>by obtain ⟨i,h1,q⟩:=B;exact ⟨i,aY z h1,p1,O,n,D,sh,q⟩
def nSl (D:TQ) (z B:TOQ):TN:=λp Q=>D p λe1 p1=>z p1 λlo p2=>B p2 λhi n=>∃ds,WK (lk n e1)=some ds/\Q (.ro (cut ds lo hi)) n
theorem adK {lo hi:Option Expr} {Z th:TOQ} {U:Pos} (hK:X.K=C.K) (he:PE X e (Up C ta)) (hl:PO X lo (UpO C Z)) (hu:PO X hi (UpO C th)):PE X (.Subscript e (.Slice lo hi none U) pos) (nj C (nSl ta Z th)):=
 QN.mk (JL (J6 hK) he hl hu) λp σ F H R rs ht=>up1 rs ht λe1 p1 v1 F1 H1 O s1 I Y q1=>by
  refine ⟨p1,F1,_,O,q1,λlo H2 D=>?_⟩
  obtain ⟨U,F2,J,s2,z,q2⟩:=D
  refine ⟨U,F2,_,J,q2,λhi H3 D=>?_⟩
  obtain ⟨p3,F3,B,s3,n,ds,h1,q3⟩:=D
  obtain ⟨a1,vs,rfl,g,r⟩:=aaf B (Y.mono (s2.trans s3) (z.trans n)) h1
  exact ⟨a1,vs,rfl,g,λq hq=>iD B (s1.trans (s2.trans s3)) (I.trans (z.trans n)) hq (r.cut lo hi) q3⟩
def WN (n:TQ):TN:=λp Q=>n p λe1 p1=>∃ds,lk p1 e1=.lst ds/\Q (.ro ds.reverse) p1
theorem K6 {j} (U:X.K=C.K) (he:PE X e (Up C ta)):PE X (.Subscript e (.Slice none none (some (.UnaryOp .USub (.Constant (.int 1) j p1) p2)) p3) pos) (nj C (WN ta)):=
 QN.mk (QV U he) λp σ F H R I J=>up1 I J λe1 p1 Y Z H1 n D sh z B=>by
  obtain ⟨ds,h1,q⟩:=B
  obtain ⟨a1,vs,rfl,g,r⟩:=jU n z h1
  exact ⟨a1,vs,rfl,.of g,λq' O=>iD n D sh O r.reverse q⟩
def WQ (z n:TQ):TN:=λp Q=>z p λe1 p1=>n p1 λe2 p2=>∃xs ys,lk p2 e1=.lst xs/\lk p2 e2=.lst ys/\xs.length+ys.length<=100000/\Q (.ro (xs++ys)) p2
theorem Ar (ha:PE X a (Up C ta)) (hb:PE X b (Up C tb)):PE X (.BinOp a .Add b pos) (nj C (WQ ta tb)):=
 QN.mk (ur V7 ha hb) λp σ F H R Z ht=>rR Z ht λe1 e2 p1 v1 v2 F1 H1 n Y sh I D U=>by
  obtain ⟨xs,ys,h1,h2,hz,q⟩:=U
  obtain ⟨a1,B,rfl,g1,O⟩:=jU n I h1
  obtain ⟨a2,z,rfl,g2,J⟩:=jU n D h2
  exact ⟨a1,a2,B,z,rfl,rfl,g1,g2,ju (by rw [<-O.length,<-J.length];exact hz),λq' hq=>iD n Y sh hq (O.append J) q⟩
def WR (z n:TQ):TN:=λp Q=>z p λe1 p1=>n p1 λe2 p2=>∃xs k,lk p2 e1=.lst xs/\lk p2 e2=.int k/\k<2 ^ 62/\-(2 ^ 62)<=k/\xs.length * k.toNat<=100000/\Q (.ro (List.replicate k.toNat xs).flatten) p2
theorem aah (ha:PE X a (Up C ta)) (hb:PE X b (Up C tb)):PE X (.BinOp a .Mult b pos) (nj C (WR ta tb)):=
 QN.mk (ur V8 ha hb) λp σ F H R U Z=>rR U Z λe1 e2 p1 v1 v2 F1 H1 n O sh D B J=>by
  obtain ⟨xs,k,h1,h2,k1,k2,Y,q⟩:=J
  obtain ⟨a1,z,rfl,g1,I⟩:=jU n D h1
  rw [aY B h2]
  exact ⟨a1,k,z,rfl,rfl,g1,by omega,by omega,ju (by rw [<-I.length];exact Y),λq' hq=>iD n O sh hq (I.rep _) q⟩
variable {es:List Expr} {cR:TAQ} {x:Str} {ps:Pos}
def WT (n:TAQ):TQ:=λp Q=>n p λes p1=>∃e ds,es=[e]/\Aq (lk p1 e)=some ds/\Q (.fz (.int ds.length)) p1
theorem rY {es:List Ev} {e:Ev} (h:nJ C.K p σ F es vs) (z:es=[e]):∃v,vs=[v]/\jL C.K p σ F e v:=by
 subst z
 cases h with
 | cons h t=>cases t;exact ⟨_,rfl,h⟩
theorem Dw {es:List Ev} {e f:Ev} {vs:List V} (h:nJ C.K p σ F es vs) (z:es=[e,f]):∃v w,vs=[v,w]/\jL C.K p σ F e v/\jL C.K p σ F f w:=by
 subst z
 cases h with
 | cons h t=>
  cases t with
  | cons h' t=>cases t;exact ⟨_,_,rfl,h,h'⟩
theorem fc (hK:X.K=C.K) (Y:Gl X "len") (U:X.mg "len"=none) (Z:PA X [e] (iz C cR)) (he:starEach [e] X.env=(false,eval e X.env)::starEach [] X.env:=by rfl):PE X (.Call (.Name "len" ps) [e] [] pos) (Up C (WT cR)):=
 QE.mk (iY (uA hK) Y U PySem.boot_len Z (he:=he)) λp σ F H R J O=>eY J O λes1 p1 D F1 H1 n I sh z B=>by
  obtain ⟨e1,ds,h1,h2,q⟩:=B
  obtain ⟨v,rfl,er⟩:=rY z h1
  obtain ⟨a1,vs,rfl,g,r⟩:=K4 n er h2
  exact ⟨a1,vs,rfl,g,bw n I sh (by rw [<-r.length];exact .int _) q⟩
def qI2 (f:Int->Int->Int) (n:TAQ):TQ:=λp Q=>n p λes p1=>∃e1 e2 i j,es=[e1,e2]/\lk p1 e1=.int i/\lk p1 e2=.int j/\Q (.fz (.int (f i j))) p1
theorem Dy (hc:X.calm=true) (Z:Gl X "min") (Y:X.mg "min"=none) (ha:PA X [a,b] (iz C cR)) (he:starEach [a,b] X.env=(false,eval a X.env)::starEach [b] X.env:=by rfl) (hpl:(backTo pos (starEach [b] X.env)).any (·.1)=false:=by rfl) :
  PE X (.Call (.Name "min" ps) [a,b] [] pos) (Up C (qI2 (λi j=>if j<i then j else i) cR)):=
 QE.mk (iY (Hv hc) Z Y (by kernel_rfl) ha (he:=he) (hpl:=hpl)) λp σ F H R O U=>eY O U λes1 p1 I F1 H1 n J sh z D=>by
  obtain ⟨e1,e2,i,j,h0,h1,h2,q⟩:=D
  obtain ⟨v,w,rfl,er,B⟩:=Dw z h0
  exact ⟨i,j,by rw [aY er h1,aY B h2],bw n J sh (.int _) q⟩
def vL (n:TAQ):TQ:=λp Q=>n p λes p1=>∃e1 e2 i j,es=[e1,e2]/\lk p1 e1=.int i/\lk p1 e2=.int j/\Qp i j/\Q (.fz (.tup [.int (i / j),.int (i % j)])) p1
theorem uG (hg:Gl X "divmod") (hm:X.mg "divmod"=none) (z:PA X [a,b] (iz C cR)) (he:starEach [a,b] X.env=(false,eval a X.env)::starEach [b] X.env:=by rfl) (hpl:(backTo pos (starEach [b] X.env)).any (·.1)=false:=by rfl) :
  PE X (.Call (.Name "divmod" ps) [a,b] [] pos) (Up C (vL cR)):=
 QE.mk (iY x_ hg hm (by kernel_rfl) z (he:=he) (hpl:=hpl)) λp σ F H R Y Z=>eY Y Z λes1 p1 O F1 H1 n U sh B I=>by
  obtain ⟨e1,e2,i,j,h0,h1,h2,c,q⟩:=I
  obtain ⟨v,w,rfl,er,D⟩:=Dw B h0
  refine ⟨i,j,by rw [aY er h1,aY D h2],c,λa z=>?_⟩
  obtain ⟨J,z2,z3⟩:=n.free z
  exact bw (n.put z) (U.trans (cZ J _)) sh (.tup aJ (.cons (.int _) (.cons (.int _) .nil))) q
def toI:D->Option Int
 | .int i=>some i
 | .bl b=>some (if b then 1 else 0)
 | _=>none
def WW (n:TAQ):TQ:=λp Q=>n p λes p1=>∃e i,es=[e]/\toI (lk p1 e)=some i/\Q (.fz (.int i)) p1
theorem pC (Z:Gl X "int") (Y:X.mg "int"=none) (ha:PA X [e] (iz C cR)) (he:starEach [e] X.env=(false,eval e X.env)::starEach [] X.env:=by rfl):PE X (.Call (.Name "int" ps) [e] [] pos) (Up C (WW cR)):=
 QE.mk (oZ Hw Z Y (by kernel_rfl) ha (he:=he)) λp σ F H R O U=>eY O U λes1 p1 J F1 H1 n B sh z I=>by
  obtain ⟨e1,i,h1,h2,q⟩:=I
  obtain ⟨v,rfl,D⟩:=rY z h1
  cases e2:lk p1 e1 with
  | int j=>rw [e2] at h2;cases (h2);exact .inl ⟨i,by rw [aY D e2],bw n B sh (.int _) q⟩
  | bl k=>rw [e2] at h2;cases h2;exact .inr ⟨k,by rw [p_ D e2],bw n B sh (.int _) q⟩
  | _=>rw [e2] at h2;cases h2
def Av (T:String):D->Option Bool
 | .int _=>some (T == "int")
 | .bl _=>some (T == "bool" || T == "int")
 | .lst _=>some (T == "list")
 | .tup _=>some (T == "tuple")
 | .str _=>some (T == "str")
 | .non=>some false
 | .uf _ _=>some false
 | _=>none
def tyName (T:String):Prop:=T="int"\/T="bool"\/T="list"\/T="tuple"\/T="str"
def tyD:D->Option Value
 | .non=>some (.type "NoneType")
 | .bl _=>some (.type "bool")
 | .int _=>some (.type "int")
 | .str _=>some (.type "str")
 | .lst _=>some (.type "list")
 | .tup _=>some (.type "tuple")
 | .uf _ _=>some (.type "dict")
 | .exc C=>some (.ref C)
 | _=>none
def xfD (K:PySem.W.Frag):D->Prop
 | .exc C=>XF K C
 | _=>True
theorem WX {z:Ev} {v:V} {t:Value} (rs:RS C p σ F H) (n:jL C.K p σ F z v) (h:tyD (lk p z)=some t) (B:xfD C.K (lk p z)):Z_ C.K H v t:=by
 cases e:lk p z with
 | int i=>rw [e] at h;cases h;rw [aY n e];exact .inl (.int _)
 | bl i=>rw [e] at h;cases h;rw [p_ n e];exact .inl (.bl _)
 | lst xs=>rw [e] at h;cases h;obtain ⟨a1,vs,rfl,g,r⟩:=jU rs n e;exact .inl (.lst g)
 | tup xs=>rw [e] at h;cases h;obtain ⟨a1,vs,rfl,g,r⟩:=vI rs n e;exact .inl (.tup g)
 | str x=>rw [e] at h;cases h;rw [bZ n e];exact .inl (.str _)
 | non=>rw [e] at h;cases h;rw [Wn n e];exact .inl .non
 | uf ks ds=>rw [e] at h;cases h;obtain ⟨a1,vs,rfl,g,l,r⟩:=KD rs n e;exact .inl (.dK g)
 | exc Cl=>rw [e] at h B;cases h;obtain ⟨a1,rfl,g⟩:=Wo rs n e;exact .inr ⟨a1,Cl,rfl,g,rfl,B⟩
 | _=>rw [e] at h;cases h
theorem Rh {k:Bool} (hT:tyName T) (rs:RS C p σ F H) (z:jL C.K p σ F e1 v) (h:Av T (lk p e1)=some k):∃t,Z_ C.K H v t/\PySem.W.kitOne C.K t (.type T)=some k:=by
 obtain ⟨t,h1,n,h2⟩:∃t,tyD (lk p e1)=some t/\xfD C.K (lk p e1)/\PySem.W.kitOne C.K t (.type T)=some k:=by
  generalize lk p e1=d at h ⊢
  cases d<;>cases h<;>rcases hT with rfl|rfl|rfl|rfl|rfl<;>exact ⟨_,rfl,trivial,rfl⟩
 exact ⟨t,WX rs z h1 n,h2⟩
def WY (T:String) (n:TAQ):TQ:=λp Q=>n p λes p1=>∃e f k,es=[e,f]/\lk p1 f=.atom (.ty T)/\Av T (lk p1 e)=some k/\Q (.fz (.bl k)) p1
theorem vM (hK:X.K=C.K) (hT:tyName T) (Z:Gl X "isinstance") (Y:X.mg "isinstance"=none) (ha:PA X [a,b] (iz C cR)) (he:starEach [a,b] X.env=(false,eval a X.env)::starEach [b] X.env:=by rfl) (hpl:(backTo pos (starEach [b] X.env)).any (·.1)=false:=by rfl) :
  PE X (.Call (.Name "isinstance" ps) [a,b] [] pos) (Up C (WY T cR)):=
 QE.mk (iY (Kw hK) Z Y (by kernel_rfl) ha (he:=he) (hpl:=hpl)) λp σ F H R O U=>eY O U λes1 p1 I F1 H1 n J sh z D=>by
  obtain ⟨e1,e2,k,h0,h1,h2,q⟩:=D
  obtain ⟨v,w,rfl,er,B⟩:=Dw z h0
  obtain ⟨t,ty,ek⟩:=Rh hT n er h2
  exact ⟨v,w,.type T,t,k,rfl,by rw [dw B h1];exact λu h=>h,ty,ek,bw n J sh (.bl _) q⟩
theorem jW {i:Nat} {xs:List D} (rs:RS C p σ F H) (h:fL p i=some xs):∃s a vs,p[i]? = some (some s)/\s.mu=true/\σ[i]? = some (some (.ref a))/\H a=some (.lst vs)/\aW C.K F xs vs/\∀ys,putL p i ys=p.set i (some (s.put ys)):=by
 unfold fL at h
 split at h
 ·rename_i ys e
  cases h
  obtain ⟨v,e1,a,vs,rfl,I,B,z,n⟩:=rs.sl i _ e
  exact ⟨_,a,vs,e,rfl,e1,z,n,λys=>by unfold putL;rw [e]⟩
 ·rename_i ys e
  cases h
  obtain ⟨v,e1,a,vs,rfl,I,B,z,n⟩:=rs.sl i _ e
  exact ⟨_,a,vs,e,rfl,e1,z,n,λys=>by unfold putL;rw [e]⟩
 ·cases h
theorem RS.W0 {a:Addr} (rs:RS C p σ F H) (h:fL p i=some xs) (n:σ[i]? = some (some (.ref a))) (r:aW C.K F ys us):RS C (putL p i ys) σ F (upd H a (.lst us))/\lG p (putL p i ys):=by
 obtain ⟨s,J,vs,h1,h2,z,I,D,B⟩:=jW rs h
 rw [n] at z;cases z
 rw [B]
 exact rs.write h1 h2 n r
theorem F_ {i:Nat} {xs:List D} {Q:V->Hp->Prop} (rs:RS C p σ F H) (h:fL p i=some xs) (k:∀a,σ[i]? = some (some (.ref a))->Zd C.K "list" (.ref a) H/\Q (.ref a) H):xR i σ H λx H1=>Zd C.K "list" x H1/\Q x H1:=by
 obtain ⟨s,a,vs,h1,h2,n,I,B,z⟩:=jW rs h
 exact ⟨.ref a,n,k a n⟩
theorem K7 {a:Addr} (rs:RS C p σ F H) (h:fL p i=some xs) (z:σ[i]? = some (some (.ref a))):Zd C.K "list" (.ref a) H:=by
 obtain ⟨s,J,vs,h1,h2,n,B,I,D⟩:=jW rs h
 rw [z] at n;cases n
 exact .inl ⟨rfl,vs,.of B⟩
def W4 (i:Nat) (n:TAQ):TQ:=λp Q=>(fL p i).isSome=true/\n p λes p2=>∃x xs,es=[.fz x]/\fL p2 i=some xs/\xs.length<100000/\Q (.fz .non) (putL p2 i (xs++[x]))
theorem gn {n:Pos} (hK:X.K=C.K) (ho:PE X o (xR i)) (ha:PA X [e] (iz C cR))
  (B:attributeBase o "append" X.env (eval o X.env)=eval o X.env:=by rfl)
  (I:((backTo pos (starEach [e] X.env)).all (λx=>!x.1) && (backToKw pos (keywordEach [] X.env)).all (λx=>x.1.isSome)
   && decide ([e].length+([]:List Keyword).length+(if ([]:List Keyword).isEmpty then 0 else 1)<30))=true:=by rfl)
  (z:(n.endLine == pos.line)=true:=by rfl) (hs:starEach [e] X.env=(false,eval e X.env)::starEach [] X.env:=by rfl):PE X (.Call (.Attribute o "append" n) [e] [] pos) (Up C (W4 i cR)):=by
 refine QE.mk (JP PySem.F.plainAttrs_list PySem.F.slot_list_append PySem.F.type_list_append HJ ho ha B I z hs rfl) λp σ F H R Y Z=>?_
 obtain ⟨h0,Z⟩:=Z
 obtain ⟨xs0,h0⟩:=yO.mp h0
 rw [hK]
 refine F_ Y h0 λa1 hσ=>⟨K7 Y h0 hσ,eY Y Z λes2 p2 vs2 F2 H2 D s2 O Aw zq=>?_⟩
 obtain ⟨x,xs,h2,h3,h4,q⟩:=zq
 obtain ⟨v,rfl,er⟩:=rY Aw h2
 obtain ⟨s,a',vs,g1,g2,g3,g4,g5,g6⟩:=jW D h3
 rw [hσ] at g3;cases g3
 obtain ⟨U,J⟩:=D.W0 h3 hσ (g5.append (.cons er .nil))
 exact ⟨a1,vs,v,rfl,rfl,g4,by rw [<-g5.length];exact zI h4 (by decide),bw U s2 (O.trans J) .non q⟩
def K8 (i:Nat):TQ:=λp Q=>∃xs,fL p i=some xs/\Q (.fz .non) (putL p i xs.reverse)
theorem Ia {n:Pos} (hK:X.K=C.K) (Z:PE X o (xR i)) (B:attributeBase o "reverse" X.env (eval o X.env)=eval o X.env:=by rfl) (z:(n.endLine == pos.line)=true:=by rfl):PE X (.Call (.Attribute o "reverse" n) [] [] pos) (Up C (K8 i)):=by
 refine QE.mk (V6 PySem.F.plainAttrs_list PySem.F.slot_list_reverse PySem.F.type_list_reverse Dg Z B z) λp σ F H R D Y=>?_
 obtain ⟨xs,I,q⟩:=Y
 rw [hK]
 refine F_ D I λa1 hσ=>⟨K7 D I hσ,?_⟩
 obtain ⟨s,a',vs,g1,g2,U,g4,g5,g6⟩:=jW D I
 rw [hσ] at U;cases U
 obtain ⟨O,J⟩:=D.W0 I hσ g5.reverse
 exact ⟨a1,vs,rfl,rfl,g4,bw O (.refl _) J .non q⟩
end
structure jb where
 nx:aQ->Prop
 rt:Rt->aQ->Prop
 bk:aQ->Prop:=λ_=>False
 ct:aQ->Prop:=λ_=>False
abbrev iU:=jb->aQ->Prop
def jb.dn (C:Pc) (F0:Hp) (E:jb):Ends where
 nx:=λσ H=>∃p F,RS C p σ F H/\aX F0 F/\E.nx p
 rt:=λv H=>∃r p σ F,RS C p σ F H/\aX F0 F/\Kz C p σ F H r v/\E.rt r p
 bk:=λσ H=>∃p F,RS C p σ F H/\aX F0 F/\E.bk p
 ct:=λσ H=>∃p F,RS C p σ F H/\aX F0 F/\E.ct p
structure Ends.Le (A B:Ends):Prop where
 nx:∀σ H,A.nx σ H->B.nx σ H
 rt:∀v H,A.rt v H->B.rt v H
 bk:∀σ H,A.bk σ H->B.bk σ H
 ct:∀σ H,A.ct σ H->B.ct σ H
theorem Ends.Le.refl (A:Ends):Ends.Le A A:=⟨λ_ _ h=>h,λ_ _ h=>h,λ_ _ h=>h,λ_ _ h=>h⟩
theorem Ends.Le.trans {A B C:Ends} (a:Ends.Le A B) (b:Ends.Le B C):Ends.Le A C:=⟨λ_ _ h=>b.nx _ _ (a.nx _ _ h),λ_ _ h=>b.rt _ _ (a.rt _ _ h),λ_ _ h=>b.bk _ _ (a.bk _ _ h),λ_ _ h=>b.ct _ _ (a.ct _ _ h)⟩
theorem K9 {E:jb} (s:aX F F1):(E.dn C F1).Le (E.dn C F):=⟨λ_ _ n=>by obtain ⟨p,G,a,b,c⟩:=n;exact ⟨p,G,a,s.trans b,c⟩,λ_ _ n=>by obtain ⟨r,p,σ,G,a,b,c⟩:=n;exact ⟨r,p,σ,G,a,s.trans b,c⟩,λ_ _ n=>by obtain ⟨p,G,a,b,c⟩:=n;exact ⟨p,G,a,s.trans b,c⟩,λ_ _ n=>by obtain ⟨p,G,a,b,c⟩:=n;exact ⟨p,G,a,s.trans b,c⟩⟩
def iV (C:Pc) (t:iU):TS:=λn σ H=>∃p F E,RS C p σ F H/\t E p/\(E.dn C F).Le n
def ql (p:aQ) (i:Nat):Bool:=match p[i]? with
 | some (some (.bor _))=>false
 | _=>true
section
variable {X:Cx} {C:Pc} {a b c e:Expr} {ta tb tc:TQ} {pos:Pos} {K:PySem.W.Frag} {p:aQ} {σ:St} {F H:Hp} {st:Stmt} {rest:List Stmt} {t u:iU}
theorem SP.le (l:Ends.Le A B) (h:SP X pins A f s'):SP X pins B f s':=by
 cases f with
 | next=>obtain ⟨σ',H',I,q⟩:=h;exact ⟨σ',H',I,l.nx _ _ q⟩
 | brk=>obtain ⟨σ',H',I,q⟩:=h;exact ⟨σ',H',I,l.bk _ _ q⟩
 | cont=>obtain ⟨σ',H',I,q⟩:=h;exact ⟨σ',H',I,l.ct _ _ q⟩
 | ret u=>obtain ⟨v,σ',H',I,r,q⟩:=h;exact ⟨v,σ',H',I,r,l.rt _ _ q⟩
theorem QS.mk {t:TS} (h:PS X st t) (hi:∀p σ F H E,RS C p σ F H->t' E p->t (E.dn C F) σ H):PS X st (iV C t'):=λpins s σ H D I n=>by
 obtain ⟨p,F,E,z,B,l⟩:=n
 exact bu (h pins s σ H _ I (hi p σ F H E z B)) λ_ _ q=>q.le l
theorem QSs.mk {t:TS} (h:gO X sts t) (hi:∀p σ F H E,RS C p σ F H->t' E p->t (E.dn C F) σ H):gO X sts (iV C t'):=λpins s σ H D I n=>by
 obtain ⟨p,F,E,z,B,l⟩:=n
 exact bu (h pins s σ H _ I (hi p σ F H E z B)) λ_ _ q=>q.le l
def K_:iU:=λE p=>E.nx p
def Ax (t u:iU):iU:=λE p=>t { E with nx:=u E } p
theorem aP:gO X [] (iV C K_):=QSs.mk u6 λp σ F H E n q=>⟨p,F,n,.refl _,q⟩
theorem bh (O:PS X st (iV C t)) (J:gO X rest (iV C u)):gO X (st::rest) (iV C (Ax t u)):=
 QSs.mk (xV O J) λp σ F H E I q=>⟨p,F,_,I,q,⟨λz H1 B=>by obtain ⟨p1,U,n,D,q1⟩:=B;exact ⟨p1,U,E,n,q1,K9 D⟩,λ_ _ h=>h,λ_ _ h=>h,λ_ _ h=>h⟩⟩
theorem aL (n:PS X st (iV C t)):gO X [st] (iV C t):=Fi n
def La (t:TQ):iU:=λE p=>t p λ_ p1=>E.nx p1
theorem nO (he:PE X e (Up C ta)) (I:swapsWith e none pos.line X.env=pure false:=by rfl):PS X (.Expr e pos) (iV C (La ta)):=
 QS.mk (Fj he I) λp σ F H E B D=>up1 B D λe1 p1 U O H1 n z sh J q=>⟨p1,O,n,z,q⟩
def Ri (t:TN):iU:=λE p=>t p E.rt
theorem bI {t:TN} (he:PE X e (nj C t)):PS X (.Return (some e) pos) (iV C (Ri t)):=
 QS.mk (Jr he) λp σ F H E B I=>Q8 B I λr p1 O J H1 n z sh D q=>⟨r,p1,σ,J,n,z,D,q⟩
def W6 (c:m9) (t u:iU):iU:=λE p=>c p λb p1=>if b=true then t E p1 else u E p1
theorem bx {c:Expr} {a b:List Stmt} {z:m9} (O:PT X c (gB C z)) (Y:gO X a (iV C t)) (U:gO X b (iV C u)):PS X (.If c a b pos) (iV C (W6 z t u)):=
 QS.mk (Js O Y U) λp σ F H E I J=>qj I J λk p1 D H1 n B sh q=>d7 (λq=>⟨p1,D,E,n,q,K9 B⟩) (λq=>⟨p1,D,E,n,q,K9 B⟩) q
def W7:iU:=λ_ _=>False
theorem pD:PS X st (iV C W7):=λ_ _ _ _ _ _ ⟨_,_,_,_,h,_⟩=>h.elim
theorem RS.clear (rs:RS C p σ F H) (h:ql p i=true):RS C (p.set i none) σ F H:=by
 refine ⟨rs.sub,rs.ext,rs.new,rs.keep,rs.grow,by rw [yc];exact rs.len,λj s e=>?_,λj k s s' x z e1 U e2 O J I=>?_,λq Y=>?_⟩
 ·by_cases n:i=j
  ·subst n
   rw [List.getElem?_set] at e
   simp at e
  ·rw [zy n] at e;exact rs.sl j s e
 ·have back:∀(j:Nat) (s:Sl),(p.set i none)[j]? = some (some s)->p[j]? = some (some s):=λj s e=>by
   by_cases n:i=j
   ·subst n;rw [List.getElem?_set] at e;simp at e
   ·rw [zy n] at e;exact e
  exact rs.apart j k s s' x z (back _ _ e1) U (back _ _ e2) O J I
 ·obtain ⟨D,xs,B⟩:=rs.pin q Y
  refine ⟨D,xs,?_⟩
  by_cases n:i=q.1
  ·rw [n] at h
   unfold ql at h
   rw [B] at h;cases h
  ·rw [zy n];exact B
theorem RS.Ay (rs:RS C p σ F H) (h:ql p i=true) (r:Rep C.K F x v):RS C (p.set i (some (.d x))) (σ.set i (some v)) F H:=by
 have ne:∀q∈C.bs,i≠q.1:=λq B z=>by
  obtain ⟨J,xs,D⟩:=rs.pin q B
  rw [z] at h
  unfold ql at h
  rw [D] at h;cases h
 refine ⟨rs.sub,rs.ext,rs.new,rs.keep,rs.grow,by rw [yc,yc];exact rs.len,λj s e=>?_,λj k s s' y I e1 Z e2 Y U O=>?_,λq B=>?_⟩
 ·by_cases n:i=j
  ·subst n
   have hi:i<p.length:=by
    have:=(zt.mp e).1
    rwa [yc] at this
   rw [zM hi] at e
   cases e
   exact ⟨v,zM (by rw [<-rs.len];exact hi),r⟩
  ·rw [zy n] at e
   rw [zy n]
   exact rs.sl j s e
 ·have back:∀(j:Nat) (s:Sl),(p.set i (some (.d x)))[j]? = some (some s)->s.mu=true->i≠j/\p[j]? = some (some s):=λj s e m=>by
   by_cases n:i=j
   ·subst n
    have hi:i<p.length:=by
     have:=(zt.mp e).1
     rwa [yc] at this
    rw [zM hi] at e
    cases e;cases m
   ·rw [zy n] at e;exact ⟨n,e⟩
  obtain ⟨n1,f1⟩:=back j s e1 Z
  obtain ⟨n2,f2⟩:=back k s' e2 Y
  rw [zy n1] at U
  rw [zy n2] at O
  exact rs.apart j k s s' y I f1 Z f2 Y U O
 ·obtain ⟨J,xs,D⟩:=rs.pin q B
  exact ⟨by rw [zy (ne q B)];exact J,xs,by rw [zy (ne q B)];exact D⟩
theorem RS.adO (rs:RS C p σ F H) (h:ql p i=true) (h1:F x=none) (h2:C.H0 x=none) (h3:H x=some (.lst vs)) (h4:aW C.K F xs vs) (h5:Dq p σ x) :
  RS C (p.set i (some (.own xs))) (σ.set i (some (.ref x))) F H:=by
 have ne:∀q∈C.bs,i≠q.1:=λq I z=>by
  obtain ⟨Z,xs,O⟩:=rs.pin q I
  rw [z] at h
  unfold ql at h
  rw [O] at h;cases h
 have back:∀(j:Nat) (s:Sl),(p.set i (some (.own xs)))[j]? = some (some s)->(i=j/\i<p.length/\s=.own xs)\/(i≠j/\p[j]? = some (some s)):=λj s e=>by
  by_cases n:i=j
  ·subst n
   have hi:i<p.length:=by
    have:=(zt.mp e).1
    rwa [yc] at this
   rw [zM hi] at e
   cases e
   exact .inl ⟨rfl,hi,rfl⟩
  ·rw [zy n] at e;exact .inr ⟨n,e⟩
 refine ⟨rs.sub,rs.ext,rs.new,rs.keep,rs.grow,by rw [yc,yc];exact rs.len,λj s e=>?_,λj k s s' y J e1 m1 e2 m2 D B=>?_,λq I=>?_⟩
 ·rcases back j s e with ⟨rfl,hi,rfl⟩|⟨n,e⟩
  ·exact ⟨.ref x,zM (by rw [<-rs.len];exact hi),x,vs,rfl,h1,h2,h3,h4⟩
  ·rw [zy n]
   exact rs.sl j s e
 ·rcases back j s e1 with ⟨rfl,hi,rfl⟩|⟨n,f1⟩
  ·rcases back k s' e2 with ⟨rfl,_,rfl⟩|⟨U,Y⟩
   ·exact J rfl
   ·rw [zM (by rw [<-rs.len];exact hi)] at D
    cases D
    rw [zy U] at B
    exact h5 k s' Y m2 B
  ·rcases back k s' e2 with ⟨rfl,hi,rfl⟩|⟨U,Y⟩
   ·rw [zM (by rw [<-rs.len];exact hi)] at B
    cases B
    rw [zy n] at D
    exact h5 j s f1 m1 D
   ·rw [zy n] at D
    rw [zy U] at B
    exact rs.apart j k s s' y J f1 m1 Y m2 D B
 ·obtain ⟨Z,ys,O⟩:=rs.pin q I
  exact ⟨by rw [zy (ne q I)];exact Z,ys,by rw [zy (ne q I)];exact O⟩
def Lb (i:Nat):iU:=λE p=>∃xs,p[i]? = some (some (.own xs))/\E.rt (.ro xs) (p.set i none)
theorem mj (he:PE X e (xR i)):PS X (.Return (some e) pos) (iV C (Lb i)):=QS.mk (Jr he) λp σ F H E n D=>by
 obtain ⟨xs,h,q⟩:=D
 obtain ⟨v,e1,x,vs,rfl,U,O,J,I⟩:=n.sl i _ h
 have Z:ql p i=true:=by unfold ql;rw [h]
 have Y:Dq (p.set i none) σ x:=λj s e m z=>by
  by_cases B:i=j
  ·subst B;rw [List.getElem?_set] at e;simp at e
  ·rw [zy B] at e
   exact n.apart j i s _ x (Ne.symm B) e m h rfl z e1
 exact ⟨.ref x,e1,.ro xs,_,σ,F,n.clear Z,.refl _,⟨x,vs,rfl,U,O,J,I,Y⟩,q⟩
def W8 (i:Nat) (t:TQ):iU:=λE p=>t p λe p1=>∃x,e=.fz x/\ql p1 i=true/\E.nx (p1.set i (some (.d x)))
theorem aU {i:Nat} {x:Str} {n:Pos} (hN:X.N.Nodup) (hi:X.N[i]? = some x) (U:Loc X.env.scope x) (he:PE X e (Up C ta)) (Z:swapsWith e (some (.Name x n)) pos.line X.env=pure false:=by rfl) (hf:X.fn x=true\/X.env.scope.names.lookup x=some .local:=by first|exact .inl rfl|exact .inr rfl|assumption) :
  PS X (.Assign [.Name x n] e pos) (iV C (W8 i ta)):=
 QS.mk (CJ hN hi U he Z hf) λp σ F H E J Y=>up1 J Y λe1 p1 v1 F1 H1 z I sh B D=>by obtain ⟨y,O,hn,q⟩:=D;exact ⟨_,F1,z.Ay hn (by subst O;exact B),I,q⟩
def Ld (i:Nat) (t:TN):iU:=λE p=>t p λr p1=>ql p1 i=true/\E.nx (p1.set i (some r.sl))
theorem gG {t:TN} (hN:X.N.Nodup) (hi:X.N[i]? = some x) (hx:Loc X.env.scope x) (he:PE X e (nj C t)) (hs:swapsWith e (some (.Name x pos')) pos.line X.env=pure false:=by rfl) (hf:X.fn x=true\/X.env.scope.names.lookup x=some .local:=by first|exact .inl rfl|exact .inr rfl|assumption) :
  PS X (.Assign [.Name x pos'] e pos) (iV C (Ld i t)):=
 QS.mk (CJ hN hi hx he hs hf) λp σ F H E rs ht=>Q8 rs ht λr p1 v1 I H1 n z sh B J=>by
  obtain ⟨D,q⟩:=J
  cases r with
  | rd y=>exact ⟨_,I,n.Ay D B,z,q⟩
  | ro xs=>
   obtain ⟨x,vs,rfl,z1,Z,Y,U,O⟩:=B
   exact ⟨_,I,n.adO D z1 Z Y U O,z,q⟩
def Ib (i:Nat) (g:Int->Int->Int) (Cn:Int->Int->Prop) (t:TQ):iU:=λE p=>∃n,p[i]? = some (some (.d (.int n)))/\t p λe p1=>∃j,lk p1 e=.int j/\Cn n j/\ql p1 i=true/\E.nx (p1.set i (some (.d (.int (g n j)))))
theorem Lf (ho:iB X (inplaceOp op) r) (Z:∀i j H Q,Cn i j->Q (.int (g i j)) H->r (.int i) (.int j) H Q) (hN:X.N.Nodup) (hi:X.N[i]? = some x) (U:Loc X.env.scope x) (he:PE X e (Up C ta)) (hf:X.fn x=true\/X.env.scope.names.lookup x=some .local:=by first|exact .inl rfl|exact .inr rfl|assumption) :
  PS X (.AugAssign (.Name x pos') op e pos) (iV C (Ib i g Cn ta)):=
 QS.mk (Vu hN hi U he ho hf) λp σ F H E I z=>by
  obtain ⟨n,h0,Y⟩:=z
  obtain ⟨v,e1,O⟩:=I.sl i _ h0
  cases O
  exact ⟨.int n,e1,up1 I Y λe1 p1 v1 F1 H1 B J sh D z=>by
   obtain ⟨j,hj,hc,hn,q⟩:=z
   rw [aY D hj]
   exact Z n j H1 _ hc ⟨_,F1,B.Ay hn (.int _),J,q⟩⟩
def tr2 (i j:Int):Prop:=True
theorem aai {i:Nat} {x:Str} {n:Pos} (hN:X.N.Nodup) (hi:X.N[i]? = some x) (z:Loc X.env.scope x) (he:PE X e (Up C ta)) (hf:X.fn x=true\/X.env.scope.names.lookup x=some .local:=by first|exact .inl rfl|exact .inr rfl|assumption) :
  PS X (.AugAssign (.Name x n) .Add e pos) (iV C (Ib i (λa b=>a+b) tr2 ta)):=Lf Qq (λi j H Q _ q=>⟨i,j,rfl,rfl,q⟩) hN hi z he hf
theorem W9 {i:Nat} {x:Str} {n:Pos} (hN:X.N.Nodup) (hi:X.N[i]? = some x) (z:Loc X.env.scope x) (he:PE X e (Up C ta)) (hf:X.fn x=true\/X.env.scope.names.lookup x=some .local:=by first|exact .inl rfl|exact .inr rfl|assumption) :
  PS X (.AugAssign (.Name x n) .Sub e pos) (iV C (Ib i (λa b=>a - b) tr2 ta)):=Lf Qs (λi j H Q _ q=>⟨i,j,rfl,rfl,q⟩) hN hi z he hf
theorem adQ {i:Nat} {x:Str} {n:Pos} (hN:X.N.Nodup) (hi:X.N[i]? = some x) (z:Loc X.env.scope x) (he:PE X e (Up C ta)) (hf:X.fn x=true\/X.env.scope.names.lookup x=some .local:=by first|exact .inl rfl|exact .inr rfl|assumption) :
  PS X (.AugAssign (.Name x n) .Mult e pos) (iV C (Ib i (λa b=>a * b) CN ta)):=Lf Qt (λi j H Q c q=>⟨i,j,rfl,rfl,c,q⟩) hN hi z he hf
def Lg (i:Nat) (z n:TQ):iU:=λE p=>z p λev p1=>(fL p1 i).isSome=true/\n p1 λB p2=>∃x xs k j,ev=.fz x/\fL p2 i=some xs/\lk p2 B=.int k/\Ab xs.length k=some j/\E.nx (putL p2 i (xs.set j x))
theorem Lh {k: Expr} {pt : Pos} (he : PE X e (Up C te)) (ho : PE X o (xR i)) (O : PE X k (Up C tk))
    (ha : ∀ v, assign (.Subscript o k pt) X.env v = (do
      let ov ← holding [v] (eval o X.env)
      let iv ← holding [v, ov] (eval k X.env)
      standAt pt
      holding [v, ov, iv] (setItem ov iv v)
      release [v, ov, iv] []) := by intro _; rfl)
    (hs : swapsWithSole [.Subscript o k pt] e pos.line X.env = pure false := by rfl) (hw : swappedStores [.Subscript o k pt] e X.env = pure none := by rfl)
    (h1 : (assignEach [.Subscript o k pt] X.env).map (·.2) = [assign (.Subscript o k pt) X.env] := by rfl) :
    PS X (.Assign [.Subscript o k pt] e pos) (iV C (Lg i te tk)) :=
  QS.mk (CG he (Ju ho O set_list ha) hs hw h1) λp σ F H E rs J => up1 rs J λe1 p1 v1 F1 H1 z s1 sh Z B=>by
    obtain ⟨h0, J⟩:=B
    obtain ⟨xs0, h0⟩ := yO.mp h0
    obtain ⟨s, x, vs, g1, g2, U, g4, g5, g6⟩ := jW z h0
    refine ⟨.ref x, U, up1 z J λe2 p2 v2 F2 H2 n s2 Qa Y B=>?_⟩
    obtain ⟨y, xs, k, j, hy, hm, O, hj, q⟩:=B
    obtain ⟨s', x', D, k1, k2, k3, k4, k5, k6⟩ := jW n hm
    rw [U] at k3; cases k3
    subst hy
    obtain ⟨I, sh3⟩ := n.W0 hm U (aW.set (Rep.mono s2 Z) j k5)
    exact ⟨x, D, k, j, rfl, aY Y O, k4, by rw [← k5.length]; exact hj, _, F2, I, s1.trans s2, q⟩
end
abbrev rZ:=D->aQ->(aQ->Prop)->Prop
abbrev ug:=List D->aQ->(aQ->Prop)->Prop
def XG (C:Pc) (F:Hp) (R:aQ->Prop) (n:St) (B:Hp):Prop:=∃p1 z,RS C p1 n z B/\aX F z/\R p1
def Ie (C:Pc) (g:rZ):TG:=λv σ H Q=>∃p F x R,RS C p σ F H/\Rep C.K F x v/\g x p R/\∀n H1,XG C F R n H1->Q n H1
def Ig (C:Pc) (g:ug):Qk:=λvs σ H Q=>∃p F xs R,RS C p σ F H/\aW C.K F xs vs/\g xs p R/\∀n H1,XG C F R n H1->Q n H1
section
variable {X:Cx} {C:Pc} {a b c e:Expr} {ta tb tc:TQ} {pos:Pos} {K:PySem.W.Frag} {p:aQ} {σ:St} {F H:Hp} {st:Stmt} {rest:List Stmt} {t u:iU}
theorem QG.mk (h:PG X tg g) (hi:∀p σ F H x v R,RS C p σ F H->Rep C.K F x v->g' x p R->g v σ H (XG C F R)):PG X tg (Ie C g'):=λpins s σ H v u Q I r z=>by
 obtain ⟨p,F,x,R,D,B,O,J⟩:=z
 exact bu (h pins s σ H v u _ I r (hi p σ F H x v R D B O)) λ_ _ z=>by obtain ⟨n,H1,U,q1⟩:=z;exact ⟨n,H1,U,J n H1 q1⟩
theorem QGs.mk (h:u9 X tgs g) (hi:∀p σ F H xs vs R,RS C p σ F H->aW C.K F xs vs->g' xs p R->g vs σ H (XG C F R)):u9 X tgs (Ig C g'):=λpins s σ H v u Q I r z=>by
 obtain ⟨p,F,x,R,D,B,O,J⟩:=z
 exact bu (h pins s σ H v u _ I r (hi p σ F H x v R D B O)) λ_ _ z=>by obtain ⟨n,H1,U,q1⟩:=z;exact ⟨n,H1,U,J n H1 q1⟩
def Dz (i:Nat):rZ:=λx p Q=>ql p i=true/\Q (p.set i (some (.d x)))
theorem aH {i:Nat} {x:Str} (hN:X.N.Nodup) (hi:X.N[i]? = some x) (D:Loc X.env.scope x) (hf:X.fn x=true\/X.env.scope.names.lookup x=some .local:=by first|exact .inl rfl|exact .inr rfl|assumption):PG X (.Name x pos) (Ie C (Dz i)):=
 QG.mk (Fl hN hi D hf) λp σ F H x v R B z n=>by obtain ⟨I,q⟩:=n;exact ⟨_,F,B.Ay I z,.refl _,q⟩
def Az:ug:=λxs p Q=>xs=[]/\Q p
def pF (g:rZ) (n:ug):ug:=λxs p Q=>∃x r,xs=x::r/\g x p λp1=>n r p1 Q
theorem dF:u9 X [] (Ig C Az):=QGs.mk u_ λp σ F H xs vs R B z n=>by
 obtain ⟨h,q⟩:=n
 subst h;cases z
 exact ⟨rfl,p,F,B,.refl _,q⟩
theorem aV {e:Expr} (h1:PG X e (Ie C g)) (h2:u9 X es (Ig C gs))
  (hs:(assignEach (e::es) X.env).map (·.2)=assign e X.env::(assignEach es X.env).map (·.2):=by rfl):u9 X (e::es) (Ig C (pF g gs)):=
 QGs.mk (xX h1 h2 hs) λp σ F H xs vs R Y U n=>by
  obtain ⟨x,r,Z,q⟩:=n
  subst Z
  cases U with
  | cons r1 r2=>
   refine ⟨_,_,rfl,p,F,x,_,Y,r1,q,λJ H1 n=>?_⟩
   obtain ⟨p1,F1,B,D,q1⟩:=n
   exact ⟨p1,F1,r,R,B,r2.mono D,q1,λI H2 n=>by obtain ⟨p2,F2,z,O,q2⟩:=n;exact ⟨p2,F2,z,D.trans O,q2⟩⟩
def A_ (n:Nat) (z:ug):rZ:=λx p Q=>∃xs,x=.tup xs/\xs.length=n/\z xs p Q
theorem jc {k:Nat} {D:ug} (hK:X.K=C.K) (Z:X.calm=true) (h:u9 X es (Ig C D)) (U:(assignEach es X.env).length=n:=by rfl) (z:(assignEach es X.env).findIdx? (·.1)=none:=by rfl):PG X (.Tuple es k pos) (Ie C (A_ n D)):=
 QG.mk (Fx hK Z h U z) λp σ F H x v R B J I=>by
  obtain ⟨xs,O,Y,q⟩:=I
  subst O
  cases J with
  | tup q1 r1=>exact ⟨_,_,rfl,.of (B.sub _ _ q1),by rw [<-r1.length];exact Y,p,F,xs,R,B,r1,q,λ_ _ h=>h⟩
def W_ (t:TQ) (g:rZ):iU:=λE p=>t p λe p1=>∃x,e=.fz x/\g x p1 E.nx
theorem fj {e:Expr} (he:PE X e (Up C ta)) (hg:PG X tg (Ie C g)) (hs:swapsWithSole [tg] e pos.line X.env=pure false:=by rfl) (Z:swappedStores [tg] e X.env=pure none:=by rfl)
  (h1:(assignEach [tg] X.env).map (·.2)=[assign tg X.env]:=by rfl):PS X (.Assign [tg] e pos) (iV C (W_ ta g)):=
 QS.mk (CG he hg hs Z h1) λp σ F H E U ht=>up1 U ht λe1 p1 v1 F1 H1 B O sh D n=>by
  obtain ⟨x,Y,q⟩:=n
  subst Y
  exact ⟨p1,F1,x,_,B,D,q,λI H2 n=>by obtain ⟨p2,F2,z,J,q2⟩:=n;exact ⟨p2,F2,z,O.trans J,q2⟩⟩
structure JQ (K:PySem.W.Frag) (J:It) (n:Nat) (item:Nat->D) (F1:Hp):Prop where
 go:∀i F H,aX F H->aX F1 F->i<n->J.go i H
 Tq:∀i F H x H',aX F H->aX F1 F->i<n->J.Tq i H x H'->(H'=H/\Rep K F (item i) x)\/∃t xs vs,H t=none/\H'=upd H t (.tup vs)/\x=.ref t/\item i=.tup xs/\aW K F xs vs
 stop:∀F H,aX F H->aX F1 F->J.stop n H
theorem JQ.out {J:It} {item:Nat->D} (I:JQ C.K J n item F1) (rs:RS C p σ F H) (s:aX F1 F) (hi:i<n) (y:J.Tq i H x H'):∃z,RS C p σ z H'/\aX F z/\Rep C.K z (item i) x:=by
 rcases I.Tq i F H x H' rs.sub s hi y with ⟨rfl,r⟩|⟨t,xs,vs,h1,h2,Y,U,O⟩
 ·exact ⟨F,rs,.refl _,r⟩
 ·obtain ⟨B,z2,Z⟩:=rs.free h1
  subst h2 Y
  rw [U]
  exact ⟨_,rs.put h1,cZ B _,.tup aJ (O.mono (cZ B _))⟩
abbrev t6:=aQ->(Nat->(Nat->D)->aQ->Prop)->Prop
def XI (C:Pc) (p:aQ) (B:St) (F:Hp) (R:Nat->(Nat->D)->aQ->Prop) (J:It) (I:Hp):Prop:=∃n item p1 z,RS C p1 B z I/\aX F z/\lG p p1/\JQ C.K J n item z/\R n item p1
def uH (C:Pc) (t:t6):TI:=λσ H Q=>∃p F R,RS C p σ F H/\t p R/\∀J H1,XI C p σ F R J H1->Q J H1
theorem QI.mk {t:TI} (h:PI X tg iter t) (hi:∀p σ F H R,RS C p σ F H->t' p R->t σ H (XI C p σ F R)):PI X tg iter (uH C t'):=λpins s σ H Q I n=>by
 obtain ⟨p,F,R,rs,ht,hq⟩:=n
 exact bu (h pins s σ H _ I (hi p σ F H R rs ht)) λ_ _ h1=>bu h1 λ_ _ n=>by obtain ⟨it,fp,Z,J,H',Y,U,O,D,B,z⟩:=n;exact ⟨it,fp,Z,J,H',Y,U,O,D,B,hq J H' z⟩
theorem vN {lo d:Int} {n:Nat} {z:Nat->Int} (e:∀i:Nat,lo+i * d=z i):JQ K (VB lo d n) n (λi=>.int (z i)) F:=⟨λi F H _ _ h=>h,λi F H x H' _ _ _ y=>by obtain ⟨h1,h2⟩:=y;subst h1 h2;rw [e];exact .inl ⟨rfl,.int _⟩,λ_ _ _ _=>zx _⟩
theorem getD_some {ds:List D} (h:i<ds.length):ds[i]? = some (ds.getD i .non):=by
 rw [zn,zg h];rfl
theorem Xa {ds:List D} (h:F x=some (.lst vs)) (r:aW K F ds vs):JQ K (Itl K x) ds.length (λi=>ds.getD i .non) F:=by
 have sq:∀{z H:Hp},aX z H->aX F z->jr K H x vs:=λn s=>.of (n _ _ (s _ _ h))
 refine ⟨λi z H n s hi=>?_,λi z H v H' n s hi y=>?_,λz H n s=>⟨vs,sq n s,by rw [r.length];exact zx _⟩⟩
 ·obtain ⟨v,e1,_⟩:=r.get (getD_some hi)
  exact ⟨vs,v,sq n s,e1⟩
 ·obtain ⟨e1,e2⟩:=y
  subst e1
  obtain ⟨w,I,B⟩:=r.get (getD_some hi)
  have:=e2 vs (sq n s)
  rw [I] at this;cases this
  exact .inl ⟨rfl,B.mono s⟩
variable {tg:Expr} {cR:TAQ} {ps ps2:Pos}
def Xb (n:TAQ):t6:=λp Q=>n p λes p1=>∃e j,es=[e]/\lk p1 e=.int j/\-(2 ^ 62)<=j/\j<2 ^ 62/\Q j.toNat (λi=>.int (0+i)) p1
theorem nP (Z:Gl X "range") (Y:X.mg "range"=none) (ha:PA X [a] (iz C cR)) (U:starEach [a] X.env=[(false,eval a X.env)]:=by rfl):PI X tg (.Call (.Name "range" ps) [a] [] pos) (uH C (Xb cR)):=
 QI.mk (Hr Z Y ha U) λp σ F H R J O=>eY J O λes1 p1 D F1 H1 n I sh z B=>by
  obtain ⟨e1,j,h1,h2,h3,h4,q⟩:=B
  obtain ⟨v,rfl,er⟩:=rY z h1
  exact ⟨j,by rw [aY er h2],h3,h4,_,_,p1,F1,n,I,sh,vN λ_=>by rw [Int.mul_one],q⟩
def Xc (n:TAQ):t6:=λp Q=>n p λes p1=>∃e f i j,es=[e,f]/\lk p1 e=.int i/\lk p1 f=.int j/\(-(2 ^ 62)<=i/\i<2 ^ 62/\-(2 ^ 62)<=j/\j<2 ^ 62)/\Q (j - i).toNat (λk=>.int (i+k)) p1
theorem nQ (hg:Gl X "range") (hm:X.mg "range"=none) (ha:PA X [a,b] (iz C cR)) (Z:starEach [a,b] X.env=[(false,eval a X.env),(false,eval b X.env)]:=by rfl) (z:starEach [b] X.env=[(false,eval b X.env)]:=by rfl):PI X tg (.Call (.Name "range" ps) [a,b] [] pos) (uH C (Xc cR)):=
 QI.mk (Ht hg hm ha Z z) λp σ F H R U Y=>eY U Y λes1 p1 J F1 H1 n O sh B I=>by
  obtain ⟨e1,e2,i,j,h0,h1,h2,h3,q⟩:=I
  obtain ⟨v,w,rfl,er,D⟩:=Dw B h0
  exact ⟨i,j,by rw [aY er h1,aY D h2],h3,_,_,p1,F1,n,O,sh,vN λ_=>by rw [Int.mul_one],q⟩
def iqL (n:TQ):t6:=λp Q=>n p λe p1=>∃ds,e=.fz (.lst ds)/\Q ds.length (λi=>ds.getD i .non) p1
theorem fM (U:X.K=C.K) (O:PE X a (Up C ta)):PI X tg a (uH C (iqL ta)):=
 QI.mk (J7 U O) λp σ F H R I J=>up1 I J λe1 p1 Z Y H1 n D sh z B=>by
  obtain ⟨ds,h1,q⟩:=B
  subst h1
  cases z with
  | lst q1 r1=>exact ⟨_,rfl,⟨_,.of (n.sub _ _ q1)⟩,_,_,p1,Y,n,D,sh,Xa q1 r1,q⟩
def Xd (ti:t6) (g:rZ) (z:iU):iU:=λE p=>ti p λn item p1=>∃I:Nat->aQ->Prop,I 0 p1/\(∀i p2,i<n->I i p2->g (item i) p2 λB=>z { E with nx:=I (i+1),ct:=I (i+1),bk:=E.nx } B)/\∀p2,I n p2->E.nx p2
theorem nR {z:Expr} {body:List Stmt} {ti:t6} {g:rZ} {tb:iU} (hp:PassesOwn (model X.prog X.w) X.A X.env X.xe) (hc:X.calm=true) (hi:PI X tg z (uH C ti)) (hg:PG X tg (Ie C g)) (hb:gO X body (iV C tb))
  (hs:∀x,foldedSetIterable z X.env x=pure x:=by intro _;rfl):PS X (.For tg z body [] pos) (iV C (Xd ti g tb)):=
 QS.mk (Jw hp hc hi hg hb hs) λp σ F H E rs ht=>⟨p,F,_,rs,ht,λJ H1 B=>by
  obtain ⟨n,item,p1,F1,Ga,s1,Li,jq,I,i0,Z,DG⟩:=B
  refine ⟨λi m σ H=>m=n - i/\i<=n/\∃p F,RS C p σ F H/\aX F1 F/\I i p,⟨n,by simp,ye _,p1,F1,Ga,.refl _,i0⟩,?_⟩
  rintro i m σ2 H2 ⟨rfl,hi,p2,F2,O,s2,i2⟩
  by_cases U:i<n
  ·refine .inr ⟨jq.go i F2 H2 O.sub s2 U,λσ' H'=>∃p F,RS C p σ' F H'/\aX F1 F/\I (i+1) p,λσ' H' h=>⟨n - (i+1),by omega,rfl,U,h⟩,λx H' y=>?_⟩
   obtain ⟨F3,Jj,s3,r3⟩:=jq.out O s2 U y
   refine ⟨p2,F3,item i,_,Jj,r3,Z i p2 U i2,λσ4 H4 ⟨p4,F4,Rj,s4,q4⟩=>⟨p4,F4,_,Rj,q4,?_⟩⟩
   have D:aX F1 F4:=s2.trans (s3.trans s4)
   exact ⟨λ_ _ B=>by obtain ⟨Y,F5,a,b,c⟩:=B;exact ⟨Y,F5,a,D.trans b,c⟩,λ_ _ B=>by obtain ⟨r,Y,σ5,F5,a,b,c⟩:=B;exact ⟨r,Y,σ5,F5,a,s1.trans (D.trans b),c⟩,λ_ _ B=>by obtain ⟨Y,F5,a,b,c⟩:=B;exact ⟨Y,F5,a,s1.trans (D.trans b),c⟩,λ_ _ B=>by obtain ⟨Y,F5,a,b,c⟩:=B;exact ⟨Y,F5,a,D.trans b,c⟩⟩
  ·have e:i=n:=by omega
   subst e
   exact .inl ⟨jq.stop F2 H2 O.sub s2,p2,F2,O,s1.trans s2,DG p2 i2⟩⟩
def Lj (c:m9) (z:iU):iU:=λE p=>∃(I:aQ->Prop) (n:aQ->Nat),I p/\∀p1,I p1->c p1 λb p2=>if b=true then z { E with nx:=λq=>I q/\n q<n p1,ct:=λq=>I q/\n q<n p1,bk:=E.nx } p2 else E.nx p2
theorem Ih {c:Expr} {body:List Stmt} {tc:m9} {tb:iU} (hp:PassesOwn (model X.prog X.w) X.A X.env X.xe) (hc:PT X c (gB C tc)) (hb:gO X body (iV C tb)):PS X (.While c body [] pos) (iV C (Lj tc tb)):=
 QS.mk (xY hp hc hb) λp σ F H E rs n=>by
  obtain ⟨I,μ,i0,step⟩:=n
  refine ⟨λm J H1=>∃p1 F1,RS C p1 J F1 H1/\aX F F1/\I p1/\m=μ p1,⟨_,p,F,rs,.refl _,i0,rfl⟩,?_⟩
  rintro m J H1 ⟨p1,F1,Ga,s1,i1,rfl⟩
  refine qj Ga (step p1 i1) λk p2 F2 H2 O s2 sh q=>?_
  refine d7 (λq=>?_) (λq=>?_) q
  ·refine ⟨λσ' H'=>∃U Y,RS C U σ' Y H'/\aX F Y/\I U/\μ U<μ p1,λσ' H' n=>by obtain ⟨U,Y,z1,z2,z3,z4⟩:=n;exact ⟨_,z4,U,Y,z1,z2,z3,rfl⟩,p2,F2,_,O,q,?_⟩
   have z:=s1.trans s2
   exact ⟨λ_ _ n=>by obtain ⟨B,D,a,b,c,d⟩:=n;exact ⟨B,D,a,z.trans b,c,d⟩,λ_ _ n=>by obtain ⟨r,B,Z,D,a,b,c⟩:=n;exact ⟨r,B,Z,D,a,z.trans b,c⟩,λ_ _ n=>by obtain ⟨B,D,a,b,c⟩:=n;exact ⟨B,D,a,z.trans b,c⟩,λ_ _ n=>by obtain ⟨B,D,a,b,c,d⟩:=n;exact ⟨B,D,a,z.trans b,c,d⟩⟩
  ·exact ⟨p2,F2,O,s1.trans s2,q⟩
end
abbrev eZ:=List Sl->(Rt->List Sl->Prop)->Prop
def adU (K:PySem.W.Frag) (F H:Hp):Sl->V->Prop
 | .d x,v=>Rep K F x v
 | .own _,_=>False
 | .bor xs,v=>∃a vs,v=.ref a/\F a=none/\H a=some (.lst vs)/\aW K F xs vs
structure Ba (K:PySem.W.Frag) (F H:Hp) (as:List Sl) (vs:List V):Prop where
 len:as.length=vs.length
 at_:∀(i:Nat) (s:Sl),as[i]? = some s->∃v,vs[i]? = some v/\adU K F H s v
 apart:∀(i j:Nat) (xs ys:List D) (a:Addr),i≠j->as[i]? = some (.bor xs)->as[j]? = some (.bor ys)->vs[i]? = some (.ref a)->vs[j]? = some (.ref a)->False
structure Post (K:PySem.W.Frag) (F H:Hp) (as:List Sl) (vs:List V) (r:Rt) (as':List Sl) (v:V) (F' H':Hp):Prop where
 ext:aX F F'
 sub:aX F' H'
 new:∀a o,F' a=some o->F a=some o\/H a=none\/∃xs,o=.tup xs
 keep:∀a o,H a=some o->(∀(i:Nat) (xs:List D),as[i]? = some (.bor xs)->vs[i]?≠some (.ref a))->H' a=some o
 grow:∀a,H a≠none->H' a≠none
 args:∀(i:Nat) (xs:List D),as[i]? = some (.bor xs)->∃ys a us,as'[i]? = some (.bor ys)/\vs[i]? = some (.ref a)/\F' a=none/\H' a=some (.lst us)/\aW K F' ys us
 res:match r with
  | .rd x=>Rep K F' x v
  | .ro xs=>∃a us,v=.ref a/\F' a=none/\H a=none/\H' a=some (.lst us)/\aW K F' xs us
abbrev Rk:=Hp->eZ
def Zg (K:PySem.W.Frag) (S:Rk):Sp:=λvs H Q _=>∃as F R,aX F H/\Ba K F H as vs/\S H as R/\∀r n v z H',Post K F H as vs r n v z H'->R r n->Q v H'
def DK (K:PySem.W.Frag) (S:eZ):Sp:=λvs H Q _=>∃as F R,aX F H/\Ba K F H as vs/\S as R/\∀r n v z H',Post K F H as vs r n v z H'->R r n->Q v H'
def jX (p:aQ):Ev->Option Sl
 | .fz x=>some (.d x)
 | .ow i=>match fL p i with
  | some xs=>some (.bor xs)
  | none=>none
def eE (p:aQ):List Ev->Option (List Sl)
 | []=>some []
 | e::r=>match jX p e,eE p r with
  | some s,some ss=>some (s::ss)
  | _,_=>none
def fO:List Ev->List Nat
 | []=>[]
 | .fz _::r=>fO r
 | .ow i::r=>i::fO r
def back:aQ->List Ev->List Sl->aQ
 | p,.ow i::es,.bor ys::as=>back (putL p i ys) es as
 | p,_::es,_::as=>back p es as
 | p,_,_=>p
theorem mq {p:aQ}:∀{es:List Ev} {as:List Sl},eE p es=some as->as.length=es.length/\∀(i:Nat) (e:Ev),es[i]? = some e->∃s,as[i]? = some s/\jX p e=some s
 | [],as,h=>by cases h;exact ⟨rfl,λi e z=>by simp at z⟩
 | e::r,as,h=>by
  unfold eE at h
  cases h1:jX p e with
  | none=>rw [h1] at h;cases h
  | some s=>
   cases h2:eE p r with
   | none=>rw [h1,h2] at h;cases h
   | some ss=>
    rw [h1,h2] at h;cases h
    obtain ⟨l,g⟩:=mq h2
    refine ⟨by simp [l],λi n z=>?_⟩
    cases i with
    | zero=>simp at z;subst z;exact ⟨s,by simp,h1⟩
    | succ i=>exact (by simpa using g i n (by simpa using z))
theorem Bb {k:Nat}:(putL p i ys)[k]? = (if k=i then (match p[k]? with|some (some s)=>some (some (s.put ys))|o=>o) else p[k]?):=by
 unfold putL
 by_cases n:k=i
 ·subst n
  rw [zm rfl]
  cases h:p[k]? with
  | none=>simp [h]
  | some o=>
   cases o with
   | none=>simp [h]
   | some s=>
    have z:k<p.length:=(zt.mp h).1
    simp only []
    rw [zM z]
 ·rw [zi n]
  split
  ·rw [zy (Ne.symm n)]
  ·rfl
theorem Lk {p:aQ}:(putL p i ys).length=p.length:=by
 unfold putL
 split
 ·exact yc
 ·rfl
theorem jf:∀{es:List Ev} {as:List Sl} {p:aQ},(back p es as).length=p.length
 | [],_,_=>by unfold back;rfl
 | .fz x::es,[],p=>by unfold back;rfl
 | .ow i::es,[],p=>by unfold back;rfl
 | .fz x::es,a::as,p=>by unfold back;exact jf
 | .ow i::es,.bor ys::as,p=>by unfold back;rw [jf,Lk]
 | .ow i::es,.d y::as,p=>by unfold back;exact jf
 | .ow i::es,.own y::as,p=>by unfold back;exact jf
theorem jY:∀{es:List Ev} {k:Nat} {m:Nat},es[m]? = some (.ow k)->k∈fO es
 | [],k,m,h=>by simp at h
 | .fz x::r,k,m,h=>by
  unfold fO
  cases m with
  | zero=>simp at h
  | succ m=>exact jY (m:=m) (by simpa using h)
 | .ow i::r,k,m,h=>by
  unfold fO
  cases m with
  | zero=>simp at h;subst h;exact zo
  | succ m=>exact zp _ (jY (m:=m) (by simpa using h))
theorem gq:∀{es:List Ev} {as:List Sl} {p:aQ} {k:Nat},(fO es).Nodup->
  (∃(m:Nat) (ys:List D) (s:Sl),es[m]? = some (.ow k)/\as[m]? = some (.bor ys)/\p[k]? = some (some s)/\(back p es as)[k]? = some (some (s.put ys))) \/
  ((∀(m:Nat) (ys:List D) (s:Sl),es[m]? = some (.ow k)->as[m]? = some (.bor ys)->p[k]? = some (some s)->False)/\(back p es as)[k]? = p[k]?)
 | [],as,p,k,_=>.inr ⟨λm ys s h=>by simp at h,by unfold back;rfl⟩
 | .fz x::es,[],p,k,_=>.inr ⟨λm ys s _ h=>by simp at h,by unfold back;rfl⟩
 | .ow i::es,[],p,k,_=>.inr ⟨λm ys s _ h=>by simp at h,by unfold back;rfl⟩
 | .fz x::es,a::as,p,k,nd=>by
  have e:back p (.fz x::es) (a::as)=back p es as:=by conv=>lhs;unfold back
  rw [e]
  rcases gq (es:=es) (as:=as) (p:=p) (k:=k) nd with ⟨m,ys,s,h1,h2,O,J⟩|⟨h1,h2⟩
  ·exact .inl ⟨m+1,ys,s,by simpa using h1,by simpa using h2,O,J⟩
  ·refine .inr ⟨λm ys s n z U=>?_,h2⟩
   cases m with
   | zero=>simp at n
   | succ m=>exact h1 m ys s (by simpa using n) (by simpa using z) U
 | .ow i::es,.d y::as,p,k,nd=>by
  have e:back p (.ow i::es) (.d y::as)=back p es as:=by conv=>lhs;unfold back
  rw [e]
  have I:(fO es).Nodup:=by unfold fO at nd;exact (yq.mp nd).2
  rcases gq (es:=es) (as:=as) (p:=p) (k:=k) I with ⟨m,ys,s,h1,h2,O,J⟩|⟨h1,h2⟩
  ·exact .inl ⟨m+1,ys,s,by simpa using h1,by simpa using h2,O,J⟩
  ·refine .inr ⟨λm ys s n z U=>?_,h2⟩
   cases m with
   | zero=>simp at z
   | succ m=>exact h1 m ys s (by simpa using n) (by simpa using z) U
 | .ow i::es,.own y::as,p,k,nd=>by
  have e:back p (.ow i::es) (.own y::as)=back p es as:=by conv=>lhs;unfold back
  rw [e]
  have I:(fO es).Nodup:=by unfold fO at nd;exact (yq.mp nd).2
  rcases gq (es:=es) (as:=as) (p:=p) (k:=k) I with ⟨m,ys,s,h1,h2,O,J⟩|⟨h1,h2⟩
  ·exact .inl ⟨m+1,ys,s,by simpa using h1,by simpa using h2,O,J⟩
  ·refine .inr ⟨λm ys s n z U=>?_,h2⟩
   cases m with
   | zero=>simp at z
   | succ m=>exact h1 m ys s (by simpa using n) (by simpa using z) U
 | .ow i::es,.bor zs::as,p,k,nd=>by
  have e:back p (.ow i::es) (.bor zs::as)=back (putL p i zs) es as:=by conv=>lhs;unfold back
  rw [e]
  have B:i ∉ fO es/\(fO es).Nodup:=by unfold fO at nd;exact yq.mp nd
  by_cases Y:k=i
  ·subst Y
   rcases gq (es:=es) (as:=as) (p:=putL p k zs) (k:=k) B.2 with ⟨m,ys,s,h1,_⟩|⟨h1,h2⟩
   ·exact absurd (jY h1) B.1
   ·rw [h2,Bb,zm rfl]
    cases h:p[k]? with
    | none=>exact .inr ⟨λm ys s _ _ g=>(by cases g),rfl⟩
    | some o=>
     cases o with
     | none=>exact .inr ⟨λm ys s _ _ g=>(by cases g),rfl⟩
     | some s=>exact .inl ⟨0,zs,s,by simp,by simp,rfl,rfl⟩
  ·have Z:(putL p i zs)[k]? = p[k]?:=by rw [Bb,zi Y]
   rcases gq (es:=es) (as:=as) (p:=putL p i zs) (k:=k) B.2 with ⟨m,ys,s,h1,h2,O,J⟩|⟨h1,h2⟩
   ·exact .inl ⟨m+1,ys,s,by simpa using h1,by simpa using h2,by rw [<-Z];exact O,J⟩
   ·refine .inr ⟨λm ys s n z U=>?_,by rw [h2,Z]⟩
    cases m with
    | zero=>simp at n;exact Y n.symm
    | succ m=>exact h1 m ys s (by simpa using n) (by simpa using z) (by rw [Z];exact U)
theorem qK {K:PySem.W.Frag} {p:aQ} {n:St} {F:Hp}:∀{es:List Ev} {vs:List V},nJ K p n F es vs->es.length=vs.length/\∀(i:Nat) (e:Ev),es[i]? = some e->∃v,vs[i]? = some v/\jL K p n F e v
 | _,_,.nil=>⟨rfl,λi e z=>by simp at z⟩
 | _,_,.cons h t=>by
  obtain ⟨l,g⟩:=qK t
  refine ⟨by simp [l],λi B z=>?_⟩
  cases i with
  | zero=>simp at z;subst z;exact ⟨_,by simp,h⟩
  | succ i=>exact (by simpa using g i B (by simpa using z))
section
variable {X:Cx} {C:Pc} {a b c e:Expr} {ta tb tc:TQ} {pos:Pos} {K:PySem.W.Frag} {p:aQ} {σ:St} {F H:Hp} {st:Stmt} {es:List Expr} {cR:TAQ}
theorem iG {es:List Ev} {vs:List V} {as:List Sl} (rs:RS C p σ F H) (er:nJ C.K p σ F es vs) (ha:eE p es=some as) (nd:(fO es).Nodup):Ba C.K F H as vs /\
  ∀(m:Nat) (xs:List D),as[m]? = some (.bor xs)->∃(k:Nat) (s:Sl) (a:Addr),es[m]? = some (.ow k)/\p[k]? = some (some s)/\s.mu=true/\σ[k]? = some (some (.ref a))/\vs[m]? = some (.ref a):=by
 obtain ⟨l1,g1⟩:=mq ha
 obtain ⟨l2,g2⟩:=qK er
 have J:∀(m:Nat) (xs:List D),as[m]? = some (.bor xs)->∃(k:Nat) (s:Sl) (a:Addr) (vs':List V),es[m]? = some (.ow k)/\p[k]? = some (some s)/\s.mu=true/\σ[k]? = some (some (.ref a))/\vs[m]? = some (.ref a)/\F a=none/\H a=some (.lst vs')/\aW C.K F xs vs':=λm xs h=>by
  have hm:m<es.length:=by rw [<-l1];exact (zt.mp h).1
  obtain ⟨s0,e1,e2⟩:=g1 m _ (zg hm)
  rw [h] at e1;cases e1
  cases B:es[m] with
  | fz x=>rw [B] at e2;cases e2
  | ow k=>
   rw [B] at e2
   have hmut:fL p k=some xs:=by
    unfold jX at e2
    cases O:fL p k with
    | none=>simp [O] at e2
    | some ys=>simp [O] at e2;rw [e2]
   obtain ⟨s,a,vs',h1,h2,h3,h4,h5,h6⟩:=jW rs hmut
   obtain ⟨v,e3,I⟩:=g2 m _ (zg hm)
   rw [B] at I
   have:=I.2
   rw [h3] at this;cases this
   have fa:F a=none:=by
    obtain ⟨w,Y,U⟩:=rs.sl k s h1
    rw [h3] at Y;cases Y
    cases s with
    | d x=>cases h2
    | own xs=>obtain ⟨_,_,z,y,_⟩:=U;cases z;exact y
    | bor xs=>obtain ⟨_,_,z,y,_⟩:=U;cases z;exact y
   exact ⟨k,s,a,vs',by rw [zg hm,B],h1,h2,h3,e3,fa,h4,h5⟩
 refine ⟨⟨by rw [l1,l2],λi s h=>?_,λi j xs ys x hij h1 h2 h3 h4=>?_⟩,λm xs h=>?_⟩
 ·have hm:i<es.length:=by rw [<-l1];exact (zt.mp h).1
  obtain ⟨s0,e1,e2⟩:=g1 i _ (zg hm)
  rw [h] at e1;cases e1
  obtain ⟨v,e3,I⟩:=g2 i _ (zg hm)
  cases s with
  | d x=>
   refine ⟨v,e3,?_⟩
   cases B:es[i] with
   | fz y=>rw [B] at e2;rw [B] at I;cases e2;exact I
   | ow k=>
    rw [B] at e2
    unfold jX at e2
    cases O:fL p k with
    | none=>simp [O] at e2
    | some ys=>simp [O] at e2
  | own xs=>
   cases B:es[i] with
   | fz y=>simp [B,jX] at e2
   | ow k=>
    rw [B] at e2
    unfold jX at e2
    cases O:fL p k with
    | none=>simp [O] at e2
    | some ys=>simp [O] at e2
  | bor xs=>
   obtain ⟨k,s,x,vs',Y,U,z3,z4,Z,z6,z7,z8⟩:=J i xs h
   exact ⟨_,Z,x,vs',rfl,z6,z7,z8⟩
 ·obtain ⟨k,s,x1,vs',Y,U,z3,z4,Z,z6,z7,z8⟩:=J i xs h1
  obtain ⟨k',s',x2,vs'',y1,y2,y3,y4,y5,y6,y7,y8⟩:=J j ys h2
  rw [h3] at Z;cases Z
  rw [h4] at y5;cases y5
  by_cases hk:k=k'
  ·subst hk
   -- the same slot twice
   have n:∀{l:List Ev} {i j k:Nat},(fO l).Nodup->l[i]? = some (.ow k)->l[j]? = some (.ow k)->i=j:=by
    intro l
    induction l with
    | nil=>intro i j k _ h;simp at h
    | cons e r ih=>
     intro i j k nd h h'
     cases e with
     | fz x=>
      cases i with
      | zero=>simp at h
      | succ i=>
       cases j with
       | zero=>simp at h'
       | succ j=>exact yn _ (ih (i:=i) (j:=j) (k:=k) (by unfold fO at nd;exact nd) (by simpa using h) (by simpa using h'))
     | ow q=>
      unfold fO at nd
      obtain ⟨n1,n2⟩:=yq.mp nd
      cases i with
      | zero=>
       simp at h;subst h
       cases j with
       | zero=>rfl
       | succ j=>exact absurd (jY (m:=j) (by simpa using h')) n1
      | succ i=>
       cases j with
       | zero=>simp at h';subst h';exact absurd (jY (m:=i) (by simpa using h)) n1
       | succ j=>exact yn _ (ih (i:=i) (j:=j) (k:=k) n2 (by simpa using h) (by simpa using h'))
   exact hij (n nd Y y1)
  ·exact rs.apart k k' s s' x hk U z3 y2 y3 z4 y4
 ·obtain ⟨k,s,x,vs',Y,U,z3,z4,Z,z6,z7,z8⟩:=J m xs h
  exact ⟨k,s,x,Y,U,z3,z4,Z⟩
theorem RS.call {es:List Ev} {vs:List V} {as D:List Sl} {r:Rt} {v:V} {F' H':Hp} (rs:RS C p σ F H) (er:nJ C.K p σ F es vs) (ha:eE p es=some as) (nd:(fO es).Nodup) (po:Post C.K F H as vs r D v F' H') :
  RS C (back p es D) σ F' H'/\lG p (back p es D)/\Kz C (back p es D) σ F' H' r v:=by
 obtain ⟨ar,Y⟩:=iG rs er ha nd
 obtain ⟨l1,g1⟩:=mq ha
 obtain ⟨l2,g2⟩:=qK er
 -- an address of ours that is Y is the adV
 have kept:∀(k:Nat) (s:Sl) (x:Addr) (o:HO),p[k]? = some (some s)->s.mu=true->σ[k]? = some (some (.ref x))->H x=some o->(∀m:Nat,es[m]?≠some (.ow k))->H' x=some o:=λk s x o h1 h2 h3 h4 h5=>by
  refine po.keep x o h4 λi xs I O=>?_
  obtain ⟨k',s',x',y1,y2,Z,y4,y5⟩:=Y i xs I
  rw [O] at y5;cases y5
  by_cases hk:k=k'
  ·subst hk;exact h5 i y1
  ·exact rs.apart k k' s s' x hk h1 h2 y2 Z h3 y4
 have U:∀x B,F x=none->H x≠none->H' x=some (.lst B)->F' x=none:=λx B h1 h2 h3=>by
  cases q:F' x with
  | none=>rfl
  | some o=>
   rcases po.new x o q with z|z|⟨ys,z⟩
   ·rw [h1] at z;cases z
   ·exact absurd z h2
   ·subst z
    have:=po.sub x _ q
    rw [h3] at this;cases this
 have slot:∀(k:Nat) (s:Sl),(back p es D)[k]? = some (some s)->∃J,p[k]? = some (some J)/\s.mu=J.mu/\(∀xs,J=.own xs->∃ys,s=.own ys)/\(∀xs,J=.bor xs->∃ys,s=.bor ys)/\(J.mu=false->s=J) /\
   (s.mu=true->∃x B ys,σ[k]? = some (some (.ref x))/\F' x=none/\H' x=some (.lst B)/\aW C.K F' ys B/\(s=.own ys\/s=.bor ys)):=λk s h=>by
  rcases gq (es:=es) (as:=D) (p:=p) (k:=k) nd with ⟨m,ys,J,h1,h2,h3,h4⟩|⟨h1,h2⟩
  ·rw [h4] at h;cases h
   obtain ⟨s1,q1,q2⟩:=g1 m _ h1
   have q3:∃xs,s1=.bor xs:=by
    unfold jX at q2
    cases hq:fL p k with
    | none=>simp [hq] at q2
    | some zs=>simp [hq] at q2;exact ⟨zs,q2.symm⟩
   obtain ⟨xs,rfl⟩:=q3
   obtain ⟨ys',x,B,a1,a2,a3,a4,a5⟩:=po.args m xs q1
   rw [h2] at a1;cases a1
   obtain ⟨k',s',x',y1,y2,Z,y4,y5⟩:=Y m xs q1
   rw [h1] at y1;cases y1
   rw [h3] at y2;cases y2
   rw [a2] at y5;cases y5
   refine ⟨J,h3,?_,λxs z=>⟨ys,by subst z;rfl⟩,λxs z=>⟨ys,by subst z;rfl⟩,λz=>?_,λ_=>⟨x,B,ys,y4,a3,a4,a5,?_⟩⟩
   ·cases J<;>rfl
   ·rw [Z] at z;cases z
   ·cases J with
    | d x=>cases Z
    | own xs=>exact .inl rfl
    | bor xs=>exact .inr rfl
  ·rw [h2] at h
   refine ⟨s,h,rfl,λxs z=>⟨xs,z⟩,λxs z=>⟨xs,z⟩,λ_=>rfl,λhm=>?_⟩
   obtain ⟨w,I,O⟩:=rs.sl k s h
   have nl:∀m:Nat,es[m]?≠some (.ow k):=λm hm'=>by
    obtain ⟨s1,q1,q2⟩:=g1 m _ hm'
    have q3:∃xs,s1=.bor xs:=by
     unfold jX at q2
     cases hq:fL p k with
     | none=>simp [hq] at q2
     | some zs=>simp [hq] at q2;exact ⟨zs,q2.symm⟩
    obtain ⟨xs,rfl⟩:=q3
    obtain ⟨ys',x,B,a1,a2,a3,a4,a5⟩:=po.args m xs q1
    exact h1 m ys' s hm' a1 h
   cases s with
   | d x=>cases hm
   | own xs=>
    obtain ⟨x,B,rfl,y1,y2,Z,y4⟩:=O
    have hH:=kept k _ x _ h rfl I Z nl
    exact ⟨x,B,xs,I,U x B y1 (by rw [Z];intro z;cases z) hH,hH,y4.mono po.ext,.inl rfl⟩
   | bor xs=>
    obtain ⟨x,B,rfl,y1,y2,Z,y4⟩:=O
    have hH:=kept k _ x _ h rfl I Z nl
    exact ⟨x,B,xs,I,U x B y1 (by rw [Z];intro z;cases z) hH,hH,y4.mono po.ext,.inr rfl⟩
 have rs':RS C (back p es D) σ F' H':=by
  refine ⟨po.sub,rs.ext.trans po.ext,λx o q=>?_,λx o q n=>?_,λx n=>po.grow x (rs.grow x n),by rw [jf];exact rs.len,λk s h=>?_,λi j s s' x hij e1 m1 e2 m2 x1 x2=>?_,λq hq=>?_⟩
  ·rcases po.new x o q with z|z|z
   ·exact rs.new x o z
   ·exact .inr (.inl (rs.free z).2.1)
   ·exact .inr (.inr z)
  ·refine po.keep x o (rs.keep x o q n) λi xs I O=>?_
   obtain ⟨k',s',x',y1,y2,Z,y4,y5⟩:=Y i xs I
   rw [O] at y5;cases y5
   obtain ⟨w,w1,w2⟩:=rs.sl k' s' y2
   rw [y4] at w1;cases w1
   cases s' with
   | d x=>cases Z
   | own xs=>obtain ⟨_,_,z,_,y,_⟩:=w2;cases z;rw [y] at q;cases q
   | bor xs=>obtain ⟨_,_,z,_,⟨q',hq',y⟩,_⟩:=w2;cases z;exact n q' hq' y
  ·obtain ⟨J,h0,hm,ho,hb,hd,hl⟩:=slot k s h
   obtain ⟨w,w1,w2⟩:=rs.sl k J h0
   refine ⟨w,w1,?_⟩
   cases J with
   | d x=>rw [hd rfl];exact Rep.mono po.ext w2
   | own xs=>
    obtain ⟨ys,rfl⟩:=ho xs rfl
    obtain ⟨x,B,ys',I,O,z3,z4,z5⟩:=hl rfl
    rw [w1] at I;cases I
    obtain ⟨_,_,z,_,y,_⟩:=w2;cases z
    rcases z5 with z5|z5<;>cases z5
    exact ⟨x,B,rfl,O,y,z3,z4⟩
   | bor xs=>
    obtain ⟨ys,rfl⟩:=hb xs rfl
    obtain ⟨x,B,ys',I,O,z3,z4,z5⟩:=hl rfl
    rw [w1] at I;cases I
    obtain ⟨_,_,z,_,y,_⟩:=w2;cases z
    rcases z5 with z5|z5<;>cases z5
    exact ⟨x,B,rfl,O,y,z3,z4⟩
  ·obtain ⟨s1,h1,hm1,_⟩:=slot i s e1
   obtain ⟨s2,h2,hm2,_⟩:=slot j s' e2
   exact rs.apart i j s1 s2 x hij h1 (by rw [<-hm1];exact m1) h2 (by rw [<-hm2];exact m2) x1 x2
  ·obtain ⟨I,xs,O⟩:=rs.pin q hq
   refine ⟨I,?_⟩
   rcases gq (es:=es) (as:=D) (p:=p) (k:=q.1) nd with ⟨m,ys,J,h1,h2,h3,h4⟩|⟨h1,h2⟩
   ·rw [O] at h3;cases h3
    exact ⟨ys,h4⟩
   ·exact ⟨xs,by rw [h2];exact O⟩
 refine ⟨rs',⟨jf,λk s h m=>?_⟩,?_⟩
 ·rcases gq (es:=es) (as:=D) (p:=p) (k:=k) nd with ⟨m',ys,J,h1,h2,h3,h4⟩|⟨h1,h2⟩
  ·rw [h] at h3;cases h3
   exact ⟨_,h4,by cases s<;>first|rfl|cases m⟩
  ·exact ⟨s,by rw [h2];exact h,m⟩
 ·have res:=po.res
  cases r with
  | rd x=>exact res
  | ro xs=>
   obtain ⟨x,B,I,O,z3,z4,z5⟩:=res
   refine ⟨x,B,I,O,(rs.free z3).2.1,z4,z5,λk s h m z=>?_⟩
   obtain ⟨J,h0,hm,_⟩:=slot k s h
   exact (rs.free z3).2.2 k J h0 (by rw [<-hm];exact m) z
def Ln (S:eZ) (t:TAQ):TN:=λp Q=>t p λes p1=>∃as,eE p1 es=some as/\(fO es).Nodup/\S as λr n=>Q r (back p1 es n)
theorem aj {x:Str} {st:Stmt} {ps:List Str} {k:Nat} {S:eZ} {p0:Pos} (hK:X.K=C.K) (D:aO X.K X.mg x st ps) (G:bY X.prog X.w X.K X.mg X.base m8 k D.f D.fd ps (DK X.K S)) (hr:bR k X.A) (ha:PA X (e::es) (iz C cR))
  (hg:Gl X x:=by rfl) (J:(x == ("__debug__":Str))=false:=by decide) (he:starEach (e::es) X.env=(false,eval e X.env)::starEach es X.env:=by rfl) (hpl:(backTo pos (starEach es X.env)).any (·.1)=false:=by rfl) :
  PE X (.Call (.Name x p0) (e::es) [] pos) (nj C (Ln S cR)):=
 QN.mk (rK D G hr ha hg J he hpl) λp σ F H R Z ht=>eY Z ht λes1 p1 U F1 H1 n Y sh z O=>by
  obtain ⟨as,h1,nd,q⟩:=O
  rw [zW,hK]
  refine ⟨as,F1,_,n.sub,(iG n z h1 nd).1,q,λr as' v F' H' po hq=>?_⟩
  obtain ⟨I,B,rr⟩:=n.call z h1 nd po
  exact ⟨r,_,F',I,Y.trans po.ext,sh.trans B,rr,hq⟩
def outs:List Sl->aQ->List Sl
 | [],_=>[]
 | .bor _::r,some s::p=>s::outs r p
 | s::r,_::p=>s::outs r p
 | s::r,[]=>s::r
theorem jZ:∀{as:List Sl} {p:aQ} {i:Nat} {xs:List D} {s:Sl},as[i]? = some (.bor xs)->p[i]? = some (some s)->(outs as p)[i]? = some s
 | [],p,i,xs,s,h,_=>by simp at h
 | a::as,[],i,xs,s,_,h=>by simp at h
 | .bor ys::as,o::p,0,xs,s,h,h'=>by
  simp at h';subst h';unfold outs;simp
 | .d y::as,o::p,0,xs,s,h,h'=>by simp at h
 | .own y::as,o::p,0,xs,s,h,h'=>by simp at h
 | .bor ys::as,none::p,i+1,xs,s,h,h'=>by
  unfold outs;simpa using jZ (as:=as) (p:=p) (i:=i) (xs:=xs) (s:=s) (by simpa using h) (by simpa using h')
 | .bor ys::as,some q::p,i+1,xs,s,h,h'=>by
  unfold outs;simpa using jZ (as:=as) (p:=p) (i:=i) (xs:=xs) (s:=s) (by simpa using h) (by simpa using h')
 | .d ys::as,o::p,i+1,xs,s,h,h'=>by
  unfold outs;simpa using jZ (as:=as) (p:=p) (i:=i) (xs:=xs) (s:=s) (by simpa using h) (by simpa using h')
 | .own ys::as,o::p,i+1,xs,s,h,h'=>by
  unfold outs;simpa using jZ (as:=as) (p:=p) (i:=i) (xs:=xs) (s:=s) (by simpa using h) (by simpa using h')
def cG:Nat->List Sl->List V->List (Nat × Addr)
 | n,.bor _::as,.ref a::vs=>(n,a)::cG (n+1) as vs
 | n,_::as,_::vs=>cG (n+1) as vs
 | _,_,_=>[]
theorem su:∀{as:List Sl} {vs:List V} {n:Nat} {q:Nat × Addr},q∈cG n as vs->∃(m:Nat) (xs:List D),q.1=n+m/\as[m]? = some (.bor xs)/\vs[m]? = some (.ref q.2)
 | [],vs,n,q,h=>by unfold cG at h;simp at h
 | a::as,[],n,q,h=>by cases a<;>(unfold cG at h;simp at h)
 | a::as,v::vs,n,q,h=>by
  have step:q∈cG (n+1) as vs->∃(m:Nat) (xs:List D),q.1=n+m/\(a::as)[m]? = some (.bor xs)/\(v::vs)[m]? = some (.ref q.2):=λh=>by
   obtain ⟨m,xs,h1,h2,z⟩:=su h
   exact ⟨m+1,xs,by omega,by simpa using h2,by simpa using z⟩
  cases a with
  | bor ys=>
   cases v with
   | ref x=>
    unfold cG at h
    rcases zr.mp h with h|h
    ·subst h;exact ⟨0,ys,by simp,by simp,by simp⟩
    ·exact step h
   | _=>exact step (by unfold cG at h;exact h)
  | d y=>exact step (by unfold cG at h;exact h)
  | own y=>exact step (by unfold cG at h;exact h)
theorem mz:∀{as:List Sl} {vs:List V} {n m:Nat} {xs:List D} {x:Addr},as[m]? = some (.bor xs)->vs[m]? = some (.ref x)->(n+m,x)∈cG n as vs
 | [],vs,n,m,xs,x,h,_=>by simp at h
 | a::as,[],n,m,xs,x,_,h=>by simp at h
 | a::as,v::vs,n,0,xs,x,h,h'=>by
  simp at h h';subst h h';unfold cG;simp
 | a::as,v::vs,n,m+1,xs,x,h,h'=>by
  have z:=mz (as:=as) (vs:=vs) (n:=n+1) (m:=m) (xs:=xs) (x:=x) (by simpa using h) (by simpa using h')
  have e:n+(m+1)=n+1+m:=by omega
  rw [e]
  cases a with
  | bor ys=>
   cases v with
   | ref y=>unfold cG;exact zp _ z
   | _=>unfold cG;exact z
  | d y=>unfold cG;exact z
  | own y=>unfold cG;exact z
def bU (N:List Str) (as:List Sl):aQ:=as.map some++List.replicate (N.length - as.length) none
end
section
variable {P:Program} {w:World} {K:PySem.W.Frag} {mg:Str->Option Value} {base:Heap}
theorem tZ.okH {x O:Str} {st:Stmt} {f:Addr} {fd:FuncData} {N ps:List Str} {k:Nat} {S:Rk} (Fn:tZ K x O st f fd) (Sc:au N ps (aa st)) (len:∀H as R,S H as R->as.length=ps.length)
  (hbody:∀(Y:Value) (A:Around) (outer:List Env) (s:Shared) (H:Hp) (E:XK) (C:Pc) (as:List Sl) (R:Rt->List Sl->Prop),K=C.K->C.H0=H->(∀q∈C.bs,(∃xs,as[q.1]? = some (.bor xs))/\∃Z,H q.2=some (.lst Z))->bR k (A.deeper (envOfC O (aa st) s.heap.objs.size f Y))->S H as R->
   ∃t,gO (fK m8 P w K mg base N O (aa st) f Y A outer s H E).Tp (dR st) (iV C t)/\t { nx:=λp=>R (.rd .non) (outs as p),rt:=λr p=>R r (outs as p) } (bU N as)):bY P w K mg base m8 (k+1) f fd ps (Zg K S):=by
 refine Fn.ok Sc (λvs H Q E h=>?_) (λY A outer s H vs Q E hr h=>?_)
 ·obtain ⟨as,F,R,h1,h2,h3,h4⟩:=h
  rw [<-h2.len];exact len _ as R h3
 obtain ⟨as,F,R,sFH,ar,hS,U⟩:=h
 have bsm:∀q∈cG 0 as vs,∃xs,as[q.1]? = some (.bor xs)/\vs[q.1]? = some (.ref q.2):=λq U=>by
  obtain ⟨m,xs,h1,h2,h3⟩:=su U
  rw [Nat.zero_add] at h1
  rw [h1]
  exact ⟨xs,h2,h3⟩
 have hb:=hbody Y A outer s H E ⟨K,F,H,cG 0 as vs⟩ as R rfl rfl (λq U=>by
  obtain ⟨xs,e,e2⟩:=bsm q U
  obtain ⟨v,h1,a,Z,rfl,_,h3,_⟩:=ar.at_ _ _ e
  rw [e2] at h1;cases h1
  exact ⟨⟨xs,e⟩,Z,h3⟩) hr hS
 obtain ⟨t,ht,tq⟩:=hb
 have J:∀(i:Nat) (s:Sl),(bU N as)[i]? = some (some s)->as[i]? = some s:=λi s h=>by
  unfold bU at h
  by_cases hi:i<as.length
  ·rw [zP (by simpa using hi)] at h
   simpa using h
  ·rw [zZ (by simpa using xF hi),zU] at h
   split at h<;>cases h
 have I:∀(i:Nat) (v:V),vs[i]? = some v->(start N vs)[i]? = some (some v):=λi v h=>by
  unfold start
  have hi:=(zt.mp h).1
  rw [zP (by simpa using hi)]
  simpa using h
 have rs:RS ⟨K,F,H,cG 0 as vs⟩ (bU N as) (start N vs) F H:=by
  refine ⟨sFH,.refl _,λa o h=>.inl h,λa o h _=>h,λa h=>h,?_,λi s h=>?_,λi j s s' a hij e1 m1 e2 m2 x1 x2=>?_,λq U=>?_⟩
  ·unfold bU start
   rw [zj,zj,zd,zd,zE,zE,ar.len]
  ·obtain ⟨v,h1,h2⟩:=ar.at_ i s (J i s h)
   refine ⟨v,I i v h1,?_⟩
   cases s with
   | d x=>exact h2
   | own xs=>exact h2.elim
   | bor xs=>
    obtain ⟨a,Z,rfl,z1,z2,z3⟩:=h2
    have mm:=mz (n:=0) (J i _ h) h1
    exact ⟨a,Z,rfl,z1,⟨_,mm,rfl⟩,z2,z3⟩
  ·have f1:=J i s e1
   have f2:=J j s' e2
   obtain ⟨v1,h1,k1⟩:=ar.at_ i s f1
   obtain ⟨v2,h2,k2⟩:=ar.at_ j s' f2
   rw [I i v1 h1] at x1;cases x1
   rw [I j v2 h2] at x2;cases x2
   cases s with
   | d x=>cases m1
   | own xs=>exact k1.elim
   | bor xs=>
    cases s' with
    | d x=>cases m2
    | own xs=>exact k2.elim
    | bor ys=>exact ar.apart i j xs ys a hij f1 f2 h1 h2
  ·obtain ⟨xs,h1,h2⟩:=bsm q U
   refine ⟨I _ _ h2,xs,?_⟩
   unfold bU
   have hi:=(zt.mp h1).1
   rw [zP (by simpa using hi)]
   simpa using h1
 -- the end
 have fin:∀(r:Rt) (p1:aQ) (D:St) (v:V) (F1 H1:Hp),RS ⟨K,F,H,cG 0 as vs⟩ p1 D F1 H1->Kz ⟨K,F,H,cG 0 as vs⟩ p1 D F1 H1 r v->R r (outs as p1)->Q v H1:=λr p1 D v F1 H1 B rr q=>by
  refine U r _ v F1 H1 ⟨B.ext,B.sub,B.new,λa o h n=>?_,B.grow,λi xs h=>?_,?_⟩ q
  ·refine B.keep a o h λq U z=>?_
   obtain ⟨xs,h1,h2⟩:=bsm q U
   exact n q.1 xs h1 (by rw [h2,z])
  ·obtain ⟨v,h1,k1⟩:=ar.at_ i _ h
   obtain ⟨a,Z,rfl,z1,z2,z3⟩:=k1
   have mm:=mz (n:=0) h h1
   obtain ⟨p1',ys,p2'⟩:=B.pin _ mm
   rw [Nat.zero_add] at p1' p2'
   obtain ⟨w,w1,b,us',e,y1,y2,y3,y4⟩:=B.sl i _ p2'
   rw [p1'] at w1;cases w1;cases e
   exact ⟨ys,a,us',jZ h p2',h1,y1,y3,y4⟩
  ·cases r with
   | rd x=>exact rr
   | ro xs=>obtain ⟨a,Z,z1,z2,z3,z4,z5,_⟩:=rr;exact ⟨a,Z,z1,z2,z3,z4,z5⟩
 refine ⟨_,ht,bU N as,F,_,rs,tq,⟨λD H1 zq=>?_,λv H1 zq=>?_,λ_ _ ⟨_,_,_,_,z⟩=>z.elim,λ_ _ ⟨_,_,_,_,z⟩=>z.elim⟩⟩
 ·obtain ⟨p1,F1,B,s1,q⟩:=zq
  exact fin (.rd .non) p1 D .non F1 H1 B .non q
 ·obtain ⟨r,p1,D,F1,B,s1,rr,q⟩:=zq
  exact fin r p1 D v F1 H1 B rr q
theorem tZ.gC {x n:Str} {st:Stmt} {f:Addr} {fd:FuncData} {N ps:List Str} {k:Nat} {S:eZ} (U:tZ K x n st f fd) (O:au N ps (aa st)) (len:∀as R,S as R->as.length=ps.length)
  (B:∀(z:Value) (A:Around) (outer:List Env) (s:Shared) (H:Hp) (E:XK) (C:Pc) (as:List Sl) (R:Rt->List Sl->Prop),K=C.K->bR k (A.deeper (envOfC n (aa st) s.heap.objs.size f z))->S as R->
   ∃t,gO (fK m8 P w K mg base N n (aa st) f z A outer s H E).Tp (dR st) (iV C t)/\t { nx:=λp=>R (.rd .non) (outs as p),rt:=λr p=>R r (outs as p) } (bU N as)):bY P w K mg base m8 (k+1) f fd ps (DK K S):=
 tZ.okH (S:=λ_=>S) U O (λ_=>len) λz A outer s H E C as R J _ _ D I=>B z A outer s H E C as R J D I
end
def Pc.sh (C:Pc) (k:Nat):Pc:=⟨C.K,C.F0,C.H0,C.bs.map λq=>(q.1+k,q.2)⟩
section
variable {X:Cx} {C:Pc} {a b c e:Expr} {ta tb tc:TQ} {pos:Pos} {K:PySem.W.Frag} {p:aQ} {σ:St} {F H:Hp} {k:Nat}
theorem vO {α:Type} {l:List (Option α)} {i:Nat} {s:α} (h:(List.replicate k none++l)[i]? = some (some s)):∃j,i=k+j/\l[j]? = some (some s):=by
 by_cases hi:i<k
 ·rw [zP (by simpa using hi),zU,zm hi] at h
  cases h
 ·rw [zZ (by simpa using xF hi),zE] at h
  exact ⟨i - k,by omega,h⟩
theorem sy {α:Type} {l:List (Option α)} {j:Nat}:(List.replicate k (none:Option α)++l)[k+j]? = l[j]?:=by
 rw [zZ (by simp),zE,Nat.add_sub_cancel_left]
theorem T7:Ky (C.sh k) F H s v ↔ Ky C F H s v:=by
 cases s with
 | d x=>exact Iff.rfl
 | own xs=>exact Iff.rfl
 | bor xs=>
  constructor
  ·rintro ⟨x,vs,h1,h2,⟨q,z,D⟩,B⟩
   obtain ⟨q',n,e⟩:=yb.mp z
   exact ⟨x,vs,h1,h2,⟨q',n,by rw [<-D,<-e]⟩,B⟩
  ·rintro ⟨x,vs,h1,h2,⟨q,z,D⟩,B⟩
   exact ⟨x,vs,h1,h2,⟨(q.1+k,q.2),yb.mpr ⟨q,z,rfl⟩,D⟩,B⟩
theorem RS.shift (rs:RS C p σ F H):RS (C.sh k) (List.replicate k none++p) (List.replicate k none++σ) F H:=by
 refine ⟨rs.sub,rs.ext,rs.new,λx o h n=>rs.keep x o h λq D=>n (q.1+k,q.2) (yb.mpr ⟨q,D,rfl⟩),rs.grow,by rw [zj,zj,zE,zE,rs.len],λi s h=>?_,λi j s s' x I e1 m1 e2 Z O J=>?_,λq D=>?_⟩
 ·obtain ⟨j,rfl,h1⟩:=vO h
  obtain ⟨v,e1,r⟩:=rs.sl j s h1
  exact ⟨v,by rw [sy];exact e1,T7.mpr r⟩
 ·obtain ⟨i',rfl,h1⟩:=vO e1
  obtain ⟨j',rfl,h2⟩:=vO e2
  rw [sy] at O J
  exact rs.apart i' j' s s' x (λz=>I (by rw [z])) h1 m1 h2 Z O J
 ·obtain ⟨q',B,e⟩:=yb.mp D
  obtain ⟨Y,xs,U⟩:=rs.pin q' B
  subst e
  have e:q'.1+k=k+q'.1:=Nat.add_comm _ _
  exact ⟨by show (List.replicate k none++σ)[q'.1+k]? = _;rw [e,sy];exact Y,xs,by show (List.replicate k none++p)[q'.1+k]? = _;rw [e,sy];exact U⟩
theorem RS.qM (rs:RS (C.sh k) p σ F H) (hk:k<=p.length):RS C (p.drop k) (σ.drop k) F H:=by
 refine ⟨rs.sub,rs.ext,rs.new,λx o h n=>rs.keep x o h λq D=>?_,rs.grow,by rw [yU,yU,rs.len],λi s h=>?_,λi j s s' x I e1 m1 e2 Z O J=>?_,λq D=>?_⟩
 ·obtain ⟨q',B,e⟩:=yb.mp D
  rw [<-e];exact n q' B
 ·rw [yB] at h
  obtain ⟨v,e1,r⟩:=rs.sl _ s h
  exact ⟨v,by rw [yB];exact e1,T7.mp r⟩
 ·rw [yB] at e1 e2 O J
  exact rs.apart _ _ s s' x (λz=>I (by omega)) e1 m1 e2 Z O J
 ·obtain ⟨Y,xs,U⟩:=rs.pin (q.1+k,q.2) (yb.mpr ⟨q,D,rfl⟩)
  have e:q.1+k=k+q.1:=Nat.add_comm _ _
  refine ⟨?_,xs,?_⟩
  ·rw [yB,<-e];exact Y
  ·rw [yB,<-e];exact U
def XGk (C:Pc) (k:Nat) (p:aQ) (B:St) (F:Hp) (R:aQ->Prop) (n:St) (D:Hp):Prop:=∃p1 z,RS C p1 n z D/\aX F z/\lG p p1/\n.drop k=B.drop k/\R p1
def pG (C:Pc) (k:Nat) (g:rZ):TG:=λv σ H Q=>∃p F x R,RS C p σ F H/\Rep C.K F x v/\g x p R/\∀n H1,XGk C k p σ F R n H1->Q n H1
def Bc (C:Pc) (k:Nat) (g:ug):Qk:=λvs σ H Q=>∃p F xs R,RS C p σ F H/\aW C.K F xs vs/\g xs p R/\∀n H1,XGk C k p σ F R n H1->Q n H1
theorem QGk.mk (h:PG X tg g) (hi:∀p σ F H x v R,RS C p σ F H->Rep C.K F x v->g' x p R->g v σ H (XGk C k p σ F R)):PG X tg (pG C k g'):=λpins s σ H v u Q I r z=>by
 obtain ⟨p,F,x,R,D,B,O,J⟩:=z
 exact bu (h pins s σ H v u _ I r (hi p σ F H x v R D B O)) λ_ _ z=>by obtain ⟨n,H1,U,q1⟩:=z;exact ⟨n,H1,U,J n H1 q1⟩
theorem aak.mk (h:u9 X tgs g) (hi:∀p σ F H xs vs R,RS C p σ F H->aW C.K F xs vs->g' xs p R->g vs σ H (XGk C k p σ F R)):u9 X tgs (Bc C k g'):=λpins s σ H v u Q I r z=>by
 obtain ⟨p,F,x,R,D,B,O,J⟩:=z
 exact bu (h pins s σ H v u _ I r (hi p σ F H x v R D B O)) λ_ _ z=>by obtain ⟨n,H1,U,q1⟩:=z;exact ⟨n,H1,U,J n H1 q1⟩
def mD (i:Nat):rZ:=λx p Q=>fL p i=none/\Q (p.set i (some (.d x)))
theorem d8 (O:i<k) (hN:X.N.Nodup) (hi:X.N[i]? = some x) (J:Loc X.env.scope x) (hf:X.fn x=true\/X.env.scope.names.lookup x=some .local:=by first|exact .inl rfl|exact .inr rfl|assumption):PG X (.Name x pos) (pG C k (mD i)):=
 QGk.mk (Fl hN hi J hf) λp σ F H x v R I D B=>by
  obtain ⟨n,q⟩:=B
  have U:ql p i=true:=by
   unfold ql
   unfold fL at n
   split
   ·rename_i e;rw [e] at n;cases n
   ·rfl
  refine ⟨_,F,I.Ay U D,.refl _,⟨yc,λj s e m=>?_⟩,?_,q⟩
  ·by_cases z:i=j
   ·subst z
    unfold fL at n
    rw [e] at n
    cases s with
    | d x=>cases m
    | own xs=>cases n
    | bor xs=>cases n
   ·exact ⟨s,by rw [zy z];exact e,m⟩
  ·apply List.ext_getElem?
   intro j
   rw [yB,yB,zy (by omega)]
theorem Gb:u9 X [] (Bc C k Az):=aak.mk u_ λp σ F H xs vs R B z n=>by
 obtain ⟨h,q⟩:=n
 subst h;cases z
 exact ⟨rfl,p,F,B,.refl _,.refl _,rfl,q⟩
theorem nU {e:Expr} (h1:PG X e (pG C k g)) (h2:u9 X es (Bc C k gs))
  (hs:(assignEach (e::es) X.env).map (·.2)=assign e X.env::(assignEach es X.env).map (·.2):=by rfl):u9 X (e::es) (Bc C k (pF g gs)):=
 aak.mk (xX h1 h2 hs) λp σ F H xs vs R rs Z n=>by
  obtain ⟨x,r,hx,q⟩:=n
  subst hx
  cases Z with
  | cons r1 r2=>
   refine ⟨_,_,rfl,p,F,x,_,rs,r1,q,λU H1 n=>?_⟩
   obtain ⟨p1,F1,I,J,B,d1,q1⟩:=n
   exact ⟨p1,F1,r,R,I,r2.mono J,q1,λO H2 n=>by obtain ⟨p2,F2,D,Y,z,d2,q2⟩:=n;exact ⟨p2,F2,D,J.trans Y,B.trans z,d2.trans d1,q2⟩⟩
theorem Lp {D:ug} (hK:X.K=C.K) (Z:X.calm=true) (h:u9 X es (Bc C k D)) (U:(assignEach es X.env).length=n:=by rfl) (z:(assignEach es X.env).findIdx? (·.1)=none:=by rfl):PG X (.Tuple es k' pos) (pG C k (A_ n D)):=
 QGk.mk (Fx hK Z h U z) λp σ F H x v R B J I=>by
  obtain ⟨xs,O,Y,q⟩:=I
  subst O
  cases J with
  | tup q1 r1=>exact ⟨_,_,rfl,.of (B.sub _ _ q1),by rw [<-r1.length];exact Y,p,F,xs,R,B,r1,q,λ_ _ h=>h⟩
def vP:m9:=λp Q=>Q true p
theorem jw:xK X [] (gB C vP):=λpins s σ H Q I n=>by obtain ⟨p,F,R,z,B,D⟩:=n;exact QH pins s σ H Q I (D true H ⟨p,F,z,.refl _,.refl _,B⟩)
theorem Xe (h:PT X c (gB C tt)):xK X [c] (gB C tt):=QJ h
def vQ {β:Type} (z:β) (len:β->Nat) (J:β->aQ->(β->aQ->Prop)->Prop) (k:Nat) (ti:t6) (g:rZ) (D:m9) (p:aQ) (Q:β->aQ->Prop):Prop:=ti p λn item p1=>∃I:Nat->β->aQ->Prop,I 0 z (List.replicate k none++p1)/\n<=100000 /\
 (∀i ys p2,i<n->I i ys p2->len ys<=i/\g (item i) p2 λO=>D O λb B=>if b=true then J ys B (I (i+1)) else I (i+1) ys B)/\∀ys p2,I n ys p2->Q ys (p2.drop k)
abbrev adX (z:TQ) (n:List D) (p:aQ) (Q:List D->aQ->Prop):Prop:=z p λe B=>∃y,e=.fz y/\Q (n++[y]) B
def nW (k:Nat) (ti:t6) (g:rZ) (n:m9) (z:TQ):TN:=λp Q=>vQ [] List.length (adX z) k ti g n p λys p1=>Q (.ro ys) p1
inductive Xf (C:Pc) (k:Nat) {α β:Type} (rel:Hp->β->α->Prop) (p1:aQ) (F1:Hp) (σ:St) (J:β->aQ->Prop) (ys:α) (σ2:St) (H2:Hp):Prop
 | mk (p2:aQ) (F2:Hp) (zs:β):RS (C.sh k) p2 σ2 F2 H2->aX F1 F2->lG (List.replicate k none++p1) p2->σ2.drop k=σ->rel F2 zs ys->J zs p2->Xf C k rel p1 F1 σ J ys σ2 H2
theorem RS.block {p1 B:aQ} {n:St} {O J:Hp} (D:RS (C.sh k) B n O J) (z:lG (List.replicate k none++p1) B) (Y:n.drop k=σ):RS C (B.drop k) σ O J/\lG p1 (B.drop k):=by
 have I:=z.1
 rw [zj,zE] at I
 refine ⟨Y▸D.qM (by omega),by rw [yU,I,Nat.add_sub_cancel_left],λj s h m=>?_⟩
 obtain ⟨s',h',U⟩:=z.2 (k+j) s (by rw [sy];exact h) m
 exact ⟨s',by rw [yB];exact h',U⟩
theorem uI {α β:Type} {ho:α->HO} {len:α->Nat} {emp:α} {ta:α->St->Hp->(α->Hp->Prop)->Prop} {aal:β} {Z:β->Nat} {tb:β->aQ->(β->aQ->Prop)->Prop} {ti:t6} {g:rZ} {tt:m9} {R:β->aQ->Prop} {Q:VK} (z:Hp->β->α->Prop) (mono:∀{F F' b a},aX F F'->z F b a->z F' b a) (r0:∀F,z F aal emp) (adY:∀{F b a},z F b a->len a=Z b)
  (add:∀{p σ F H b a} {M:α->Hp->Prop} {N:β->aQ->Prop},RS (C.sh k) p σ F H->z F b a->tb b p N->(∀zs ws p1 D H1,RS (C.sh k) p1 σ D H1->aX F D->lG p p1->z D zs ws->N zs p1->M ws H1)->ta a σ H M)
  (rs:RS C p σ F H) (ht:vQ aal Z tb k ti g tt p R) (hq:∀A p1 D H1 zs ws,RS C p1 σ D H1->aX F D->lG p p1->H1 A=none->z D zs ws->R zs p1->Q (.ref A) (upd H1 A (ho ws))) :
  o8 ho len emp ta k (uH C ti) (pG (C.sh k) k g) (gB (C.sh k) tt) σ H Q:=
 ⟨p,F,_,rs,ht,λJ H1 zq=>by
  obtain ⟨n,item,p1,D,Ga,s1,Li,jq,I,i0,hn,istep,DG⟩:=zq
  refine ⟨λi m ys σ2 H2=>m=n - i/\i<=n/\Xf C k z p1 D σ (I i) ys σ2 H2,⟨n,by simp,ye _,_,D,_,Ga.shift,.refl _,.refl _,by simp,r0 _,i0⟩,?_⟩
  rintro i m ys σ2 H2 ⟨rfl,hi,p2,F2,zs,U,s2,Qa,d2,rz,i2⟩
  by_cases B:i<n
  ·obtain ⟨hl,st⟩:=istep i zs p2 B i2
   refine .inr ⟨jq.go i F2 H2 U.sub s2 B,?_,Xf C k z p1 D σ (I (i+1)),λ_ _ _ h=>⟨n - (i+1),by omega,rfl,B,h⟩,λx H' y=>?_⟩
   ·rw [adY rz];exact Nat.lt_of_le_of_lt hl (zI (zI B hn) (by decide))
   obtain ⟨F3,Jj,s3,r3⟩:=JQ.out (C:=C.sh k) jq U s2 B y
   refine ⟨p2,F3,item i,_,Jj,r3,st,λσ4 H4 zq=>?_⟩
   obtain ⟨p4,F4,Rj,s4,sh4,d4,q4⟩:=zq
   refine qj Rj q4 λb p5 F5 H5 rs5 s5 sh5 q5=>?_
   have O:=s3.trans (s4.trans s5)
   have Y:=Qa.trans (sh4.trans sh5)
   exact d7 (λq5=>add rs5 (mono O rz) q5 λzs' ws p6 F6 H6 rs6 s6 sh6 r6 q6=>⟨p6,F6,zs',rs6,(s2.trans O).trans s6,Y.trans sh6,d4.trans d2,r6,q6⟩) (λq5=>⟨p5,F5,zs,rs5,s2.trans O,Y,d4.trans d2,mono O rz,q5⟩) q5
  ·have e:i=n:=by omega
   subst e
   obtain ⟨Jj,sh3⟩:=U.block Qa d2
   exact .inl ⟨jq.stop F2 H2 U.sub s2,λA hA=>hq A _ F2 H2 zs ys Jj (s1.trans s2) (Li.trans sh3) hA rz (DG zs p2 i2)⟩⟩
theorem Bd {ti:t6} {g:rZ} {J:m9} {O:TQ} {R:Rt->aQ->Prop} {Q:VK} (rs:RS C p σ F H) (ht:nW k ti g J O p R) (hq:∀v H1,XN C p σ F R v H1->Q v H1) :
  Ag k (uH C ti) (pG (C.sh k) k g) (gB (C.sh k) J) (Up (C.sh k) O) σ H Q:=
 uI (aW C.K) (λs r=>r.mono s) (λ_=>.nil) (λr=>r.length.symm) (λrs rz q k=>up1 rs q λe6 p6 v6 F6 H6 B U n I Y=>by
  obtain ⟨z,hz,q6⟩:=Y
  subst hz
  exact k _ _ p6 F6 H6 B U n ((rz.mono U).append (.cons I .nil)) q6) rs ht λA p1 F1 H1 zs ws D Z sh hA r q=>hq _ _ (iD D Z sh hA r q)
theorem mF {n:Expr} (S:a_ X scope N k) (J:X.calm=true) (hi:PI X tg iter (uH C ti))
  (I:∀Z s H fp,PG (bF X scope N Z s H fp) tg (pG (C.sh k) k g)) (z:∀Z s H fp,xK (bF X scope N Z s H fp) ifs (gB (C.sh k) tt)) (he:∀Z s H fp,PE (bF X scope N Z s H fp) n (Up (C.sh k) te))
  (D:∀x,foldedSetIterable iter X.env x=pure x:=by intro _;rfl):PE X (.ListComp n [⟨tg,iter,ifs,0⟩] scope pos) (nj C (nW k ti g tt te)):=
 QN.mk (QM S J hi I z he D) λp σ F H R B z=>Bd B z λ_ _ h=>h
end
theorem aao {α:Type} (x:α) (xs:List α):iy (x::xs) 0=some x:=gU (j:=0) rfl
theorem aap {α:Type} (x y:α) (xs:List α):iy (x::y::xs) 1=some y:=gU (j:=1) rfl
theorem aaq {α:Type} (x y z:α) (xs:List α):iy (x::y::z::xs) 2=some z:=gU (j:=2) rfl
theorem aar {α:Type} (x y z u:α) (xs:List α):iy (x::y::z::u::xs) 3=some u:=gU (j:=3) rfl
theorem Xg:Ab 2 0=some 0:=rfl
theorem Xh:Ab 2 1=some 1:=rfl
theorem getD_ints {ns:List Int} (h:i<ns.length):(ns.map D.int).getD i .non=.int (ns.getD i 0):=by
 rw [zn,zO,zg h,zn,zg h];rfl
theorem Lq (n:Nat) (x:Int):(List.replicate n [D.int x]).flatten=(List.replicate n x).map D.int:=by
 induction n with
 | zero=>rfl
 | succ n ih=>rw [zT,yX,ih,zT];rfl
theorem sE {E:jb} {item:Nat->D} (z:∀Q:Nat->(Nat->D)->aQ->Prop,Q n item p1->ti p Q) (I:Nat->aQ->Prop) (h0:I 0 p1)
  (B:∀i p2,i<n->I i p2->g (item i) p2 λp3=>tb { E with nx:=I (i+1),ct:=I (i+1),bk:=E.nx } p3) (hd:∀p2,I n p2->E.nx p2):Xd ti g tb E p:=z _ ⟨I,h0,B,hd⟩
theorem kY {E:jb} (I:aQ->Prop) (n:aQ->Nat) (h0:I p)
  (z:∀p1,I p1->c p1 λb p2=>if b=true then tb { E with nx:=λq=>I q/\n q<n p1,ct:=λq=>I q/\n q<n p1,bk:=E.nx } p2 else E.nx p2):Lj c tb E p:=⟨I,n,h0,z⟩
theorem DN {k:Nat} {item:Nat->D} (z:∀Q:Nat->(Nat->D)->aQ->Prop,Q n item p1->ti p Q) (J:n<=100000) (I:Nat->List D->aQ->Prop) (h0:I 0 [] (List.replicate k none++p1))
  (O:∀i ys p2,I i ys p2->ys.length<=i)
  (B:∀i ys p2,i<n->I i ys p2->g (item i) p2 λp3=>tt p3 λb p4=>if b=true then te p4 λe p5=>∃y,e=.fz y/\I (i+1) (ys++[y]) p5 else I (i+1) ys p4) (hd:∀ys p2,I n ys p2->Q (.ro ys) (p2.drop k)):nW k ti g tt te p Q:=
 z _ ⟨I,h0,J,λi ys p2 hi h=>⟨O i ys p2 h,B i ys p2 hi h⟩,hd⟩
theorem comp_map {item:Nat->D} (z:∀Q:Nat->(Nat->D)->aQ->Prop,Q n item p1->ti p Q) (I:n<=100000) (f:Nat->D)
  (B:∀i (R:Ev->aQ->Prop),i<n->R (.fz (f i)) (some (.d (item i))::p1)->te (some (.d (item i))::p1) R) (hd:Q (.ro ((List.range n).map f)) p1):nW 1 ti (mD 0) vP te p Q:=by
 refine DN z I (λi ys p2=>ys=(List.range i).map f/\∃o:Option D,p2=(o.map Sl.d)::p1) ⟨rfl,none,rfl⟩ (λi ys p2 h=>by rw [h.1,zd,List.length_range];exact zx _) ?_ ?_
 ·rintro i ys p2 hi ⟨rfl,o,rfl⟩
  refine ⟨by cases o<;>rfl,?_⟩
  show vP (some (.d (item i))::p1) _
  unfold vP
  simp only [if_true]
  refine B i _ hi ⟨_,rfl,?_,some (item i),rfl⟩
  rw [List.range_succ,yf];rfl
 ·rintro ys p2 ⟨rfl,o,rfl⟩
  exact hd
theorem Be {item:Nat->D} (z:∀Q:Nat->(Nat->D)->aQ->Prop,Q n item p1->ti p Q) (J:n<=100000) (t:Nat->Bool) (f:Nat->D)
  (I:∀i (R:Bool->aQ->Prop),i<n->R (t i) (some (.d (item i))::p1)->tt (some (.d (item i))::p1) R)
  (he:∀i (R:Ev->aQ->Prop),i<n->t i=true->R (.fz (f i)) (some (.d (item i))::p1)->te (some (.d (item i))::p1) R) (hd:Q (.ro (((List.range n).filter t).map f)) p1):nW 1 ti (mD 0) tt te p Q:=by
 refine DN z J (λi ys p2=>ys=((List.range i).filter t).map f/\∃o:Option D,p2=(o.map Sl.d)::p1) ⟨rfl,none,rfl⟩ (λi ys p2 h=>by
  rw [h.1,zd]
  exact zQ (List.length_filter_le _ _) (by rw [List.length_range];exact zx _)) ?_ ?_
 ·rintro i ys p2 hi ⟨rfl,o,rfl⟩
  refine ⟨by cases o<;>rfl,?_⟩
  show tt (some (.d (item i))::p1) _
  refine I i _ hi ?_
  cases B:t i with
  | true=>
   rw [zm rfl]
   refine he i _ hi B ⟨_,rfl,?_,some (item i),rfl⟩
   rw [List.range_succ,List.filter_append,yf]
   simp [B]
  | false=>
   rw [zi ym]
   refine ⟨?_,some (item i),rfl⟩
   rw [List.range_succ,List.filter_append]
   simp [B]
 ·rintro ys p2 ⟨rfl,o,rfl⟩
  exact hd
end L2
namespace L2
open PySem
section
variable {o:Option Sl} {p:aQ} {i:Nat} {x:D} {xs ys:List D} {u:Option D}
theorem ad0:ql (o::p) (i+1)=ql p i:=rfl
theorem ad1:ql (none::p) 0=true:=rfl
theorem ad2:ql (some (.d x)::p) 0=true:=rfl
theorem ad3:ql (some (.own xs)::p) 0=true:=rfl
theorem ad4:ql (Option.map Sl.d u::p) 0=true:=by cases u<;>rfl
theorem ad5:fL (o::p) (i+1)=fL p i:=rfl
theorem ad6:fL (none::p) 0=none:=rfl
theorem ad7:fL (some (.d x)::p) 0=none:=rfl
theorem ad8:fL (some (.own xs)::p) 0=some xs:=rfl
theorem ad9:fL (some (.bor xs)::p) 0=some xs:=rfl
theorem aea:fL (Option.map Sl.d u::p) 0=none:=by cases u<;>rfl
theorem aeb:putL (o::p) (i+1) ys=o::putL p i ys:=by
 unfold putL
 rw [List.getElem?_cons_succ]
 cases h:p[i]? with
 | none=>rfl
 | some s=>cases s<;>rfl
theorem aec {s:Sl}:putL (some s::p) 0 ys=some (s.put ys)::p:=rfl
end
theorem cD (I:aQ->Prop) (h:∀k:aQ->Prop,(∀p',I p'->k p')->t { E with nx:=k } p) (n:∀p',I p'->R E p'):Ax t R E p:=h (R E) n
theorem cV (h:t { E with nx:=R E } p):Ax t R E p:=h
theorem Rm {α:Type} (xs:List α) (h:xs≠[]):∃ys y,xs=ys++[y]:=⟨xs.dropLast,xs.getLast h,(yL h).symm⟩
theorem T8 {E:jb} (h:ti p λn item p1=>∃I:Nat->aQ->Prop,I 0 p1/\(∀i p2,i<n->I i p2->g (item i) p2 λp3=>tb { E with nx:=I (i+1),ct:=I (i+1),bk:=E.nx } p3)/\∀p2,I n p2->E.nx p2):Xd ti g tb E p:=h
end L2
namespace L2
open PySem PySem.Spec PyProof.Rows
section
variable {X:Cx} {C:Pc} {a b c e:Expr} {ta tb tc:TQ} {cR:TAQ} {pos ps:Pos}
def Lr (z n:TQ):TQ:=λp Q=>z p λe1 p1=>n p1 λe2 p2=>∃x y,lk p2 e1=.str x/\lk p2 e2=.str y/\x.length+y.length<=100000/\Q (.fz (.str (x++y))) p2
theorem j4 (Z:PE X a (Up C ta)) (Y:PE X b (Up C tb)):PE X (.BinOp a .Add b pos) (Up C (Lr ta tb)):=
 QE.mk (ur CP Z Y) λp σ F H R J U=>rR J U λe1 e2 p1 v1 v2 F1 H1 n I sh B z D=>by obtain ⟨x,y,h1,h2,O,q⟩:=D;exact ⟨x,y,bZ B h1,bZ z h2,ju O,bw n I sh (.str _) q⟩
theorem DP:iB X (binaryOp .Mult) (λx y H Q=>∃z n,x=.str z/\y=.int n/\MulOk z n/\Q (.str (Txt.mul z n)) H):=by
 intro pins s σ H x y v u Q I J D h
 obtain ⟨z,n,rfl,rfl,O,q⟩:=h
 obtain ⟨t,rfl⟩:=J
 obtain ⟨U,rfl⟩:=D
 exact SB.mul O λB k=>⟨.str _,H,I.tok _,⟨_,rfl⟩,q⟩
def Ls (B z:TQ):TQ:=λp Q=>B p λe1 p1=>z p1 λe2 p2=>∃x n,lk p2 e1=.str x/\lk p2 e2=.int n/\MulOk x n/\Q (.fz (.str (Txt.mul x n))) p2
theorem sG (ha:PE X a (Up C ta)) (Z:PE X b (Up C tb)):PE X (.BinOp a .Mult b pos) (Up C (Ls ta tb)):=
 QE.mk (ur DP ha Z) λp σ F H R O Y=>rR O Y λe1 e2 p1 v1 v2 F1 H1 z J sh D B I=>by obtain ⟨x,n,h1,h2,U,q⟩:=I;exact ⟨x,n,bZ D h1,aY B h2,U,bw z J sh (.str _) q⟩
theorem Ii:jR X (.type "int") (λxs H Q=>∃x n,xs=[.str x]/\intText? x=some n/\x.length<=640/\Q (.int n) H):=by
 intro pins s σ H xs B Q I r h
 obtain ⟨x,n,rfl,h1,h2,q⟩:=h
 obtain ⟨u,rfl,z⟩:=vals1 r
 obtain ⟨t,rfl⟩:=z
 exact PySem.W.KIN.call_text h1 h2 ⟨.int n,H,I.tok _,⟨_,rfl⟩,q⟩
def Lw (z:TAQ):TQ:=λp Q=>z p λes p1=>∃e x n,es=[e]/\lk p1 e=.str x/\intText? x=some n/\x.length<=640/\Q (.fz (.int n)) p1
theorem nY (Z:Gl X "int") (Y:X.mg "int"=none) (ha:PA X [e] (iz C cR)) (he:starEach [e] X.env=(false,eval e X.env)::starEach [] X.env:=by rfl):PE X (.Call (.Name "int" ps) [e] [] pos) (Up C (Lw cR)):=
 QE.mk (oZ Ii Z Y (by kernel_rfl) ha (he:=he)) λp σ F H R O U=>eY O U λes1 p1 I F1 H1 z J sh B D=>by
  obtain ⟨e1,x,n,h1,h2,h3,h4,q⟩:=D
  obtain ⟨v,rfl,er⟩:=rY B h1
  exact ⟨x,n,by rw [bZ er h2],h3,h4,bw z J sh (.int _) q⟩
end
mutual
def toP:D->PyData
 | .non=>.none
 | .bl b=>.bool b
 | .int i=>.int i
 | .str x=>.str x
 | .lst xs=>.list (toPs xs)
 | .tup xs=>.tuple (toPs xs)
 | .atom _=>.none
 | .p8 ns=>.list (ns.map PyData.int)
 | .uf _ _=>.none
 | .exc _=>.none
def toPs:List D->List PyData
 | []=>[]
 | x::xs=>toP x::toPs xs
end
mutual
def plain:D->Bool
 | .atom _=>false
 | .uf _ _=>false
 | .exc _=>false
 | .lst xs=>mG xs
 | .tup xs=>mG xs
 | _=>true
def mG:List D->Bool
 | []=>true
 | x::xs=>plain x && mG xs
end
theorem sH:∀{ns:List Int} {z:List Value},Vals (ns.map V.int) z->∃as,ReadsAll h z (ns.map PyData.int) as
 | [],_,r=>by cases r;exact ⟨_,.nil⟩
 | n::ns,_,r=>by
  cases r with
  | cons h1 t=>
   obtain ⟨tk,rfl⟩:=h1
   obtain ⟨as,B⟩:=sH (ns:=ns) t
   exact ⟨_,.cons (.int _ _) B⟩
section
variable {X:Cx} {pins:List (Addr × Obj)} {s:Shared} {σ:St} {H F:Hp}
theorem mH {h:Heap} {z:List Value} (pl:h.IsList a z.toArray) (B:ReadsAll h z xs as):Reads h (.ref a) (.list xs) (a::as):=by
 obtain ⟨o,h1,h2,n,D⟩:=pl
 exact .list h1 h2 D B
theorem Ij {z:List Value} (pl:IsTup h a z.toArray) (B:ReadsAll h z xs as):Reads h (.ref a) (.tuple xs) as:=by
 obtain ⟨o,h1,h2,n,D⟩:=pl
 exact .tuple h1 h2 D B
mutual
theorem Bf (I:Inv X pins σ H s) (sm:aX F H):∀{d:D} {v:V} {u:Value},Rep X.K F d v->plain d=true->RelV v u->∃as,Reads s.heap u (toP d) as
 | _,_,_,.non,_,r=>by cases r;exact ⟨_,.none⟩
 | _,_,_,.bl b,_,r=>by cases r;exact ⟨_,.bool b⟩
 | _,_,_,.int i,_,r=>by obtain ⟨t,rfl⟩:=r;exact ⟨_,.int i t⟩
 | _,_,_,.str x,_,r=>by obtain ⟨t,rfl⟩:=r;exact ⟨_,.str x t⟩
 | _,_,_,.atom v,hp,_=>by simp [plain] at hp
 | _,_,_,.uf _ _ _,hp,_=>by simp [plain] at hp
 | _,_,_,.exc _,hp,_=>by simp [plain] at hp
 | _,_,_,.lst q rl,hp,r=>by
  cases r
  obtain ⟨B,n,pl,_⟩:=I.list (.of (sm _ _ q))
  obtain ⟨as,z⟩:=kZ I sm rl (by simpa only [plain] using hp) n
  exact ⟨_,mH pl.isList z⟩
 | _,_,_,.tup q rl,hp,r=>by
  cases r
  obtain ⟨B,n,pl,_⟩:=I.tuple (.inl (.inl (sm _ _ q)))
  obtain ⟨as,z⟩:=kZ I sm rl (by simpa only [plain] using hp) n
  exact ⟨_,Ij pl z⟩
 | _,_,_,.p8 q,_,r=>by
  cases r
  obtain ⟨B,n,pl,_⟩:=I.list (sm.seq q)
  obtain ⟨as,z⟩:=sH (h:=s.heap) n
  exact ⟨_,mH pl.isList z⟩
theorem kZ (I:Inv X pins σ H s) (sm:aX F H):∀{ds:List D} {vs:List V} {z:List Value},aW X.K F ds vs->mG ds=true->Vals vs z->∃as,ReadsAll s.heap z (toPs ds) as
 | _,_,_,.nil,_,r=>by cases r;exact ⟨_,.nil⟩
 | _,_,_,.cons q rl,hp,r=>by
  cases r with
  | cons h1 t=>
   have n:=hp
   simp only [mG,yo] at n
   obtain ⟨as,J⟩:=Bf I sm q n.1 h1
   obtain ⟨bs,B⟩:=kZ I sm rl n.2 t
   exact ⟨_,.cons J B⟩
end
end
def RdV (K:PySem.W.Frag) (H:Hp) (d:D) (v:V):Prop:=∃F,aX F H/\(Rep K F d v\/∃(a:Addr) (vs:List V) (ds:List D),v=.ref a/\d=.lst ds/\H a=some (.lst vs)/\aW K F ds vs)
section
variable {X:Cx} {C:Pc} {pins:List (Addr × Obj)} {s:Shared} {σ:St} {H F:Hp}
theorem RdV.reads (h:RdV X.K H d v) (I:Inv X pins σ H s) (n:plain d=true) (r:RelV v u):∃as,Reads s.heap u (toP d) as:=by
 obtain ⟨F,sm,h|⟨a,vs,ds,rfl,rfl,q,B⟩⟩:=h
 ·exact Bf I sm h n r
 ·cases r
  obtain ⟨J,z,pl,_⟩:=I.list (.of q)
  obtain ⟨as,D⟩:=kZ I sm B (by simpa only [plain] using n) z
  exact ⟨_,by simp only [toP];exact mH pl.isList D⟩
theorem qb (rs:RS C p σ F H) (z:jL C.K p σ F e v):RdV C.K H (lk p e) v:=by
 cases e with
 | fz x=>exact ⟨F,rs.sub,.inl z⟩
 | ow i=>
  obtain ⟨⟨s,h1,m⟩,h2⟩:=z
  obtain ⟨w,e1,sr⟩:=rs.sl i s h1
  rw [h2] at e1;cases e1
  have B:lk p (.ow i)=s.val:=by show (match p[i]? with|some (some s)=>s.val|_=>.non)=_;rw [h1]
  rw [B]
  cases s with
  | d x=>cases m
  | own xs=>obtain ⟨a,vs,rfl,_,_,q,n⟩:=sr;exact ⟨F,rs.sub,.inr ⟨a,vs,xs,rfl,rfl,q,n⟩⟩
  | bor xs=>obtain ⟨a,vs,rfl,_,_,q,n⟩:=sr;exact ⟨F,rs.sub,.inr ⟨a,vs,xs,rfl,rfl,q,n⟩⟩
end
structure xM (d:D):Prop where
 pl:plain d=true
 ly:(toP d).canLay0=true
 dp:(toP d).depth<=30
def Bg (x y:D):Bool:=PyData.eqv (toP x) (toP y)
section
variable {X:Cx} {C:Pc} {a b c e:Expr} {ta tb:TQ} {pos ps:Pos} {K:PySem.W.Frag}
def Rn (K:PySem.W.Frag) (f:Bool->Bool):R2:=λx y H Q=>∃dx n,RdV K H dx x/\RdV K H n y/\xM dx/\xM n/\Q (.bl (f (Bg dx n))) H
theorem Xi (U:X.A.units+64<cLine):iB X (compareOp .Eq) (Rn X.K λk=>k):=by
 intro pins s σ H x y v u Q I D B h
 obtain ⟨dx,Y,h1,h2,n,z,q⟩:=h
 obtain ⟨as,O⟩:=h1.reads I n.pl D
 obtain ⟨bs,J⟩:=h2.reads I z.pl B
 exact SeqAt.compareEq_reads O J n.ly z.ly (by have:=n.dp;omega) ⟨.bl _,H,I,rfl,q⟩
theorem Xj (U:X.A.units+64<cLine):iB X (compareOp .NotEq) (Rn X.K λk=>!k):=by
 intro pins s σ H x y v u Q I D B h
 obtain ⟨dx,Y,h1,h2,n,z,q⟩:=h
 obtain ⟨as,O⟩:=h1.reads I n.pl D
 obtain ⟨bs,J⟩:=h2.reads I z.pl B
 exact SeqAt.compareNe_reads O J n.ly z.ly (by have:=n.dp;omega) ⟨.bl _,H,I,rfl,q⟩
theorem Gd (h:X.K=K) (n:X.A.units+64<cLine):iB X (compareOp .Eq) (Rn K λk=>k):=by subst h;exact Xi n
theorem Ge (h:X.K=K) (n:X.A.units+64<cLine):iB X (compareOp .NotEq) (Rn K λk=>!k):=by subst h;exact Xj n
def Lx (f:Bool->Bool) (z n:TQ):TQ:=λp Q=>z p λe1 p1=>n p1 λe2 p2=>xM (lk p2 e1)/\xM (lk p2 e2)/\Q (.fz (.bl (f (Bg (lk p2 e1) (lk p2 e2))))) p2
theorem T9 (hK:X.K=C.K) (Y:X.A.units+64<cLine) (ha:PE X a (Up C ta)) (hb:PE X b (Up C tb)):PE X (.Compare a [.Eq] [b] pos) (Up C (Lx (λk=>k) ta tb)):=
 QE.mk (vf (Gd hK Y) ha hb (gF _)) λp σ F H R J Z=>rR J Z λe1 e2 p1 v1 v2 F1 H1 n I sh B z D=>by obtain ⟨U,O,q⟩:=D;exact ⟨_,_,qb n B,qb n z,U,O,bw n I sh (.bl _) q⟩
theorem aat (hK:X.K=C.K) (Y:X.A.units+64<cLine) (ha:PE X a (Up C ta)) (hb:PE X b (Up C tb)):PT X (.Compare a [.Eq] [b] pos) (gB C (gm (Lx (λk=>k) ta tb))):=
 QT.mk (fY (Gd hK Y) ha hb (gF _)) λp σ F H R J Z=>rR J Z λe1 e2 p1 v1 v2 F1 H1 n I sh B z D=>by obtain ⟨U,O,k,hk,q⟩:=D;exact ⟨_,_,qb n B,qb n z,U,O,k,by cases hk;rfl,p1,F1,n,I,sh,q⟩
theorem aau (hK:X.K=C.K) (Y:X.A.units+64<cLine) (ha:PE X a (Up C ta)) (hb:PE X b (Up C tb)):PT X (.Compare a [.NotEq] [b] pos) (gB C (gm (Lx (λk=>!k) ta tb))):=
 QT.mk (fY (Ge hK Y) ha hb (gF _)) λp σ F H R J Z=>rR J Z λe1 e2 p1 v1 v2 F1 H1 n I sh B z D=>by obtain ⟨U,O,k,hk,q⟩:=D;exact ⟨_,_,qb n B,qb n z,U,O,k,by cases hk;rfl,p1,F1,n,I,sh,q⟩
end
section
variable {X:Cx} {C:Pc} {a b c e:Expr} {ta tb tc:TQ} {cR:TAQ} {pos ps ps2:Pos} {K:PySem.W.Frag} {p:aQ} {σ:St} {F H:Hp}
theorem Xk {vs:List V} {ds:List D} (h:F x=some (.lst vs)) (r:aW K F ds vs):JQ K (Itv K x vs.length) ds.length (λi=>ds.getD (ds.length - 1 - i) .non) F:=by
 have sq:∀{z H:Hp},aX z H->aX F z->jr K H x vs:=λn s=>.of (n _ _ (s _ _ h))
 have B:=r.length
 refine ⟨λi z H n s hi=>?_,λi z H v H' n s hi y=>?_,λz H n s=>?_⟩
 ·obtain ⟨v,e1,_⟩:=r.get (getD_some (show ds.length - 1 - i<ds.length by omega))
  exact ⟨vs,v,sq n s,rfl,by omega,by rw [<-B];exact e1⟩
 ·obtain ⟨e1,e2⟩:=y
  subst e1
  obtain ⟨w,J,I⟩:=r.get (getD_some (show ds.length - 1 - i<ds.length by omega))
  have:=e2 vs (sq n s)
  rw [<-B,J] at this;cases this
  exact .inl ⟨rfl,I.mono s⟩
 ·show vs.length=ds.length
  omega
def iqV (n:TAQ):t6:=λp Q=>n p λes p1=>∃e ds,es=[e]/\e=.fz (.lst ds)/\Q ds.length (λi=>ds.getD (ds.length - 1 - i) .non) p1
theorem T_ (hK:X.K=C.K) (Z:Gl X "reversed") (Y:X.mg "reversed"=none) (ha:PA X [a] (iz C cR)) (U:starEach [a] X.env=[(false,eval a X.env)]:=by rfl):PI X tg (.Call (.Name "reversed" ps) [a] [] pos) (uH C (iqV cR)):=
 QI.mk (Q4 hK Z Y ha U) λp σ F H R J O=>eY J O λes1 p1 D F1 H1 n I sh z B=>by
  obtain ⟨e1,ds,h0,h1,q⟩:=B
  obtain ⟨v,rfl,er⟩:=rY z h0
  subst h1
  cases er with
  | lst q1 r1=>exact ⟨_,_,rfl,.of (n.sub _ _ q1),_,_,p1,F1,n,I,sh,Xk q1 r1,q⟩
def sI (k:Key) (ks:List Key):Bool:=ks.any λx=>decide (x=k)
theorem sJ {k:Key}:sI k ks=true ↔ k∈ks:=by
 unfold sI
 rw [List.any_eq_true]
 constructor
 ·rintro ⟨x,h1,h2⟩;have:=yY h2;subst this;exact h1
 ·intro h;exact ⟨k,h,yj rfl⟩
theorem sO {k:Key}:∀{ks:List Key} {vs:List V},ks.length=vs.length->(iZ (ks.zip vs) k).isSome=sI k ks
 | [],[],_=>by simp [J8,sI]
 | x::ks,v::vs,h=>by
  have n:=sO (k:=k) (ks:=ks) (vs:=vs) (by simpa using h)
  rw [List.zip_cons_cons]
  unfold sI at n ⊢
  rw [xj]
  by_cases e:x=k
  ·rw [rM (p:=(x,v)) e,yj e];rfl
  ·rw [rN (p:=(x,v)) e,n,zY e,Bool.false_or]
 | [],_::_,h=>by simp at h
 | _::_,[],h=>by simp at h
def vR (f:Bool->Bool) (B z:TQ):TQ:=λp Q=>B p λe1 p1=>z p1 λe2 p2=>∃i n ds,lk p2 e1=.int i/\lk p2 e2=.uf n ds/\Q (.fz (.bl (f (sI (Sum.inl i) n)))) p2
theorem Gf {R:Ev->aQ->Prop} {G:V->Hp->Prop} (rs:RS C p σ F H) (U:ta p λe1 p1=>tb p1 λe2 p2=>∃i B ds,lk p2 e1=.int i/\lk p2 e2=.uf B ds/\R (.fz (.bl (sI (Sum.inl i) B))) p2)
  (k:∀(b:Bool) p1 z H1,RS C p1 σ z H1->aX F z->lG p p1->R (.fz (.bl b)) p1->G (.bl b) H1):Z6 (Up C ta) (Up C tb) σ H G:=
 rR rs U λe1 e2 p1 Z Y z H1 n O sh I D J=>by
  obtain ⟨i,B,ds,h1,h2,q⟩:=J
  obtain ⟨a1,vs,rfl,g,l,r⟩:=KD n D h2
  rw [aY I h1]
  refine ⟨a1,_,rfl,J_.k (k:=Sum.inl i) g,?_⟩
  rw [sO l]
  exact k _ p1 z H1 n O sh q
theorem acA (U:X.A.units+64<cLine) (O:PE X a (Up C ta)) (J:PE X b (Up C tb)) (I:behindInMarks .In b=false:=by rfl):PE X (.Compare a [.In] [b] pos) (Up C (vR (λk=>k) ta tb)):=
 QE.mk (Vm (Kc (by omega) O J) I) λp σ F H R B D=>Gf B D λb p1 Y H1 n z sh q=>bw n z sh (.bl _) q
theorem Ro (hu:X.A.units+64<cLine) (Y:PE X a (Up C ta)) (U:PE X b (Up C tb)) (J:behindInMarks .In b=false:=by rfl):PT X (.Compare a [.In] [b] pos) (gB C (gm (vR (λk=>k) ta tb))):=
 QT.mk (Cz (Kc (by omega) Y U) J) λp σ F H R D I=>Gf (R:=λe p1=>∃b,lk p1 e=.bl b/\R b p1) D I λb p1 Z H1 n B sh z=>by obtain ⟨k,O,q⟩:=z;exact ⟨k,by cases O;rfl,p1,Z,n,B,sh,q⟩
theorem Ly {k:Key} {ks:List Key} {vs:List V} (l:ks.length=vs.length) (h:k ∉ ks):putK (ks.zip vs) k v=(ks++[k]).zip (vs++[v]):=by
 rw [J9,List.zip_append l]
 ·rfl
 ·have:=sO (k:=k) l
  have hf:sI k ks=false:=by
   cases z:sI k ks with
   | false=>rfl
   | true=>exact absurd (sJ.mp z) h
  rw [hf] at this
  cases q:iZ (ks.zip vs) k with
  | none=>rfl
  | some x=>rw [q] at this;cases this
abbrev aee (I B:TQ) (b:List Key × List D) (p:aQ) (Q:List Key × List D->aQ->Prop):Prop:=I p λe J=>B J λO z=>∃(y:D) (n:Int),lk z e=.int n/\O=.fz y/\Sum.inl n ∉ b.1/\Q (b.1++[Sum.inl n],b.2++[y]) z
def Lz (i k:Nat) (ti:t6) (g:rZ) (z:m9) (B n:TQ):iU:=λE p=>vQ ([],[]) (λb=>b.1.length) (aee B n) k ti g z p λb p1=>ql p1 i=true/\E.nx (p1.set i (some (.d (.uf b.1 b.2))))
theorem Rp {k:Nat} {n:Expr} (hN:X.N.Nodup) (hi':X.N[i]? = some x) (hx:Loc X.env.scope x) (S:a_ X scope N k) (hc:X.calm=true) (hi:PI X tg n (uH C ti))
  (hg:∀Z s H fp,PG (bF X scope N Z s H fp) tg (pG (C.sh k) k g)) (ht:∀Z s H fp,xK (bF X scope N Z s H fp) ifs (gB (C.sh k) tt)) (hk:∀Z s H fp,PE (bF X scope N Z s H fp) kx (Up (C.sh k) tk)) (hv:∀Z s H fp,PE (bF X scope N Z s H fp) vx (Up (C.sh k) tv))
  (hsw:swapsWith (.DictComp kx vx [⟨tg,n,ifs,0⟩] scope pos2) (some (.Name x pos')) pos.line X.env=pure true:=by rfl)
  (hs:∀x,foldedSetIterable n X.env x=pure x:=by intro _;rfl) (hf:X.fn x=true\/X.env.scope.names.lookup x=some .local:=by first|exact .inl rfl|exact .inr rfl|assumption) :
  PS X (.Assign [.Name x pos'] (.DictComp kx vx [⟨tg,n,ifs,0⟩] scope pos2) pos) (iV C (Lz i k ti g tt tk tv)):=
 QS.mk (Aj hN hi' hx S hc hi hg ht hk hv hsw hs hf) λp σ F H E rs ht=>show o8 HO.dK List.length [] (Wd (Up (C.sh k) tk) (Up (C.sh k) tv)) k _ _ _ σ H (λv H1=>(E.dn C F).nx (σ.set i (some v)) H1) from uI (λF (b:List Key × List D) (a:List (Key × V))=>∃vs,a=b.1.zip vs/\b.1.length=vs.length/\aW C.K F b.2 vs) (λs r=>by obtain ⟨vs,h1,h2,h3⟩:=r;exact ⟨vs,h1,h2,h3.mono s⟩) (λ_=>⟨[],rfl,rfl,.nil⟩)
  (λr=>by obtain ⟨vs,rfl,h2,_⟩:=r;rw [List.length_zip,<-h2,Nat.min_self]) (λrs I q k=>up1 rs q λe6 p6 v6 F6 H6 rs6 s6 U er6 q6=>up1 rs6 q6 λe7 p7 v7 F7 H7 rs7 Y B er7 zq=>by
   obtain ⟨z,kk,hkk,hz,O,q7⟩:=zq
   subst hz
   obtain ⟨vs,rfl,l,I⟩:=I
   exact ⟨Sum.inl kk,aY (er6.mono Y B) hkk,k _ _ p7 F7 H7 rs7 (s6.trans Y) (U.trans B) ⟨vs++[v7],Ly l O,by rw [zj,zj,l];rfl,(I.mono (s6.trans Y)).append (.cons er7 .nil)⟩ q7⟩) rs ht λA p1 F1 H1 zs ws J s1 sh hA r q=>by
   obtain ⟨vs,rfl,l,I⟩:=r
   obtain ⟨z1,_⟩:=J.free hA
   exact ⟨_,_,(J.put (a:=A) (o:=.dK (zs.1.zip vs)) hA).Ay q.1 (.uf aJ l (I.mono (cZ z1 _))),s1.trans (cZ z1 _),q.2⟩
end
end L2
namespace L2
open PySem
theorem aav {a:Sl} {P:Sl->Prop}:(∃s,some (some a)=some (some s)/\P s)=P a:=propext ⟨λn=>by obtain ⟨s,e,h⟩:=n;cases e;exact h,λh=>⟨a,rfl,h⟩⟩
theorem Xl {a:Int} {P:Int->Prop}:(∃i,D.int a=D.int i/\P i)=P a:=propext ⟨λn=>by obtain ⟨s,e,h⟩:=n;cases e;exact h,λh=>⟨a,rfl,h⟩⟩
theorem Rq {a b:Int} {P:Int->Int->Prop}:(∃i j,D.int a=D.int i/\D.int b=D.int j/\P i j)=P a b:=propext ⟨λn=>by obtain ⟨s,t,e,z,h⟩:=n;cases e;cases z;exact h,λh=>⟨a,b,rfl,rfl,h⟩⟩
theorem aaw {a:Bool} {P:Bool->Prop}:(∃i,D.bl a=D.bl i/\P i)=P a:=propext ⟨λn=>by obtain ⟨s,e,h⟩:=n;cases e;exact h,λh=>⟨a,rfl,h⟩⟩
theorem aax {a:D} {P:D->Prop}:(∃i,Ev.fz a=Ev.fz i/\P i)=P a:=propext ⟨λn=>by obtain ⟨s,e,h⟩:=n;cases e;exact h,λh=>⟨a,rfl,h⟩⟩
theorem Xm {a:List D} {P:List D->Prop}:(∃i,Ev.fz (D.lst a)=Ev.fz (D.lst i)/\P i)=P a:=propext ⟨λn=>by obtain ⟨s,e,h⟩:=n;cases e;exact h,λh=>⟨a,rfl,h⟩⟩
theorem Rr {α:Type} {a:α} {P:α->Prop}:(∃i,some a=some i/\P i)=P a:=propext ⟨λn=>by obtain ⟨s,e,h⟩:=n;cases e;exact h,λh=>⟨a,rfl,h⟩⟩
theorem Xn {a:List D} {P:List D->Prop}:(∃i,D.lst a=D.lst i/\P i)=P a:=propext ⟨λn=>by obtain ⟨s,e,h⟩:=n;cases e;exact h,λh=>⟨a,rfl,h⟩⟩
theorem Xo {a:List D} {P:List D->Prop}:(∃i,some (some (Sl.own a))=some (some (Sl.own i))/\P i)=P a:=propext ⟨λn=>by obtain ⟨s,e,h⟩:=n;cases e;exact h,λh=>⟨a,rfl,h⟩⟩
theorem Xp {a:List D} {P:List D->Prop}:(∃i,D.tup a=D.tup i/\P i)=P a:=propext ⟨λn=>by obtain ⟨s,e,h⟩:=n;cases e;exact h,λh=>⟨a,rfl,h⟩⟩
theorem aay {α:Sort _} {a:Ev} {P:Ev->α->Prop}:(∃e x,[a]=[e]/\P e x)=∃x,P a x:=propext ⟨λn=>by obtain ⟨s,x,e,h⟩:=n;cases e;exact ⟨x,h⟩,λ⟨x,h⟩=>⟨a,x,rfl,h⟩⟩
theorem Xq {α:Type} {P:Prop}:(a=a/\P)=P:=by simp
end L2
namespace L2
open PySem PySem.Spec PyProof.Rows
section
variable {X:Cx} {C:Pc} {a b c e o:Expr} {ta tb to:TQ} {cR:TAQ} {pos ps ps2 apos:Pos} {K:PySem.W.Frag} {F:Hp} {tg:Expr}
theorem aW.strs:∀{ts:List Str} {vs:List V},aW K F (ts.map D.str) vs->vs=ts.map V.str
 | [],_,.nil=>rfl
 | _::r,_,.cons q t=>by
  cases q
  rw [yu,aW.strs (ts:=r) t]
theorem aW.Gg:∀(ts:List Str),aW K F (ts.map D.str) (ts.map V.str)
 | []=>.nil
 | t::r=>.cons (.str t) (aW.Gg r)
def LC (n:TAQ):TQ:=λp Q=>n p λes p1=>∃e i,es=[e]/\lk p1 e=.int i/\i.natAbs.log2<1920/\Q (.fz (.str (toString i))) p1
theorem bM (Y:Gl X "str") (U:X.mg "str"=none) (Z:PA X [e] (iz C cR)) (he:starEach [e] X.env=(false,eval e X.env)::starEach [] X.env:=by rfl):PE X (.Call (.Name "str" ps) [e] [] pos) (Up C (LC cR)):=
 QE.mk (oZ vg Y U (by kernel_rfl) Z (he:=he)) λp σ F H R J O=>eY J O λes1 p1 D F1 H1 n I sh z B=>by
  obtain ⟨e1,i,h1,h2,h3,q⟩:=B
  obtain ⟨v,rfl,er⟩:=rY z h1
  exact ⟨i,by rw [aY er h2],h3,bw n I sh (.str _) q⟩
def LK (n:TAQ):TQ:=λp Q=>n p λes p1=>∃e z,es=[e]/\lk p1 e=.str z/\z.length<=100000/\Q (.fz (.int z.length)) p1
theorem Gh (Z:Gl X "len") (Y:X.mg "len"=none) (ha:PA X [e] (iz C cR)) (he:starEach [e] X.env=(false,eval e X.env)::starEach [] X.env:=by rfl):PE X (.Call (.Name "len" ps) [e] [] pos) (Up C (LK cR)):=
 QE.mk (iY vA Z Y PySem.boot_len ha (he:=he)) λp σ F H R O U=>eY O U λes1 p1 I F1 H1 n J sh B D=>by
  obtain ⟨e1,z,h1,h2,h3,q⟩:=D
  obtain ⟨v,rfl,er⟩:=rY B h1
  exact ⟨z,by rw [bZ er h2],ju h3,bw n J sh (.int _) q⟩
def inS (x y:Str):Bool:=!(Builtin.Str.occurrences y x 0 y.length 1).isEmpty
def Xr (f:Bool->Bool) (z n:TQ):TQ:=λp Q=>z p λe1 p1=>n p1 λe2 p2=>∃x y,lk p2 e1=.str x/\lk p2 e2=.str y/\Q (.fz (.bl (f (inS x y)))) p2
theorem LQ (ha:PE X a (Up C ta)) (Z:PE X b (Up C tb)) (U:behindInMarks .NotIn b=false:=by rfl):PT X (.Compare a [.NotIn] [b] pos) (gB C (gm (Xr (λk=>!k) ta tb))):=
 QT.mk (fY vq ha Z U) λp σ F H R J O=>rR J O λe1 e2 p1 v1 v2 F1 H1 n I sh B z D=>by obtain ⟨x,y,h1,h2,k,Y,q⟩:=D;exact ⟨x,y,bZ B h1,bZ z h2,k,by cases Y;rfl,p1,F1,n,I,sh,q⟩
def Xu (B n:TQ):TQ:=λp Q=>B p λe1 p1=>n p1 λe2 p2=>∃z k c,lk p2 e1=.str z/\lk p2 e2=.int k/\z.length<=100000/\iy z.cps.toList k=some c/\Q (.fz (.str ⟨#[c]⟩)) p2
theorem aaA (ha:PE X a (Up C ta)) (Z:PE X b (Up C tb)) (Y:nG b):PE X (.Subscript a b pos) (Up C (Xu ta tb)):=
 QE.mk (JM V4 ha Z Y) λp σ F H R O U=>rR O U λe1 e2 p1 v1 v2 F1 H1 n J sh D B I=>by
  obtain ⟨z,k,c,h1,h2,h3,h4,q⟩:=I
  rw [bZ D h1,aY B h2]
  exact ⟨z,k,c,rfl,rfl,ju h3,h4,bw n J sh (.str _) q⟩
def LR (n:TQ) (B:TAQ):TQ:=λp Q=>n p λe1 p1=>(∃z,lk p1 e1=.str z)/\B p1 λes p2=>∃(e2:Ev) (z:Str) (ts:List Str),es=[e2]/\lk p2 e1=.str z/\lk p2 e2=.lst (ts.map D.str)/\JoinOk z ts=true/\Q (.fz (.str (Txt.join z ts))) p2
theorem sS (hK:X.K=C.K) (ho:PE X o (Up C to)) (ha:PA X [e] (iz C cR))
  (B:attributeBase o "join" X.env (eval o X.env)=eval o X.env:=by rfl)
  (O:((backTo pos (starEach [e] X.env)).all (λx=>!x.1) && (backToKw pos (keywordEach [] X.env)).all (λx=>x.1.isSome)
   && decide ([e].length+([]:List Keyword).length+(if ([]:List Keyword).isEmpty then 0 else 1)<30))=true:=by rfl)
  (n:(apos.endLine == pos.line)=true:=by rfl) (hs:starEach [e] X.env=(false,eval e X.env)::starEach [] X.env:=by rfl):PE X (.Call (.Attribute o "join" apos) [e] [] pos) (Up C (LR to cR)):=by
 refine QE.mk (JP PySem.F.plainAttrs_str PySem.F.slot_str_join PySem.F.type_str_join (Kh hK) ho ha B O n hs rfl) λp σ F H R rs Z=>?_
 rw [hK]
 refine up1 rs Z λe1 p1 v1 F1 H1 Y s1 sh D U=>?_
 obtain ⟨⟨z,hz⟩,Z⟩:=U
 rw [bZ D hz]
 refine ⟨rfl,eY Y Z λes2 p2 vs2 F2 H2 J s2 I Aw U=>?_⟩
 obtain ⟨e2,z',ts,h2,h3,h4,ok,q⟩:=U
 obtain ⟨v,rfl,er⟩:=rY Aw h2
 obtain ⟨a1,vs,rfl,g,r⟩:=jU J er h4
 rw [r.strs] at g
 have e3:=bZ (D.mono s2 I) h3
 rw [bZ D hz] at e3
 cases e3
 exact ⟨z,a1,ts,rfl,rfl,.of g,ok,bw J (s1.trans s2) (sh.trans I) (.str _) q⟩
def DQ (n:TQ) (B:TAQ):TN:=λp Q=>n p λe1 p1=>(∃z,lk p1 e1=.str z)/\B p1 λes p2=>∃(e2:Ev) (z y:Str),es=[e2]/\lk p2 e1=.str z/\lk p2 e2=.str y/\(y.length == 0)=false/\z.length<=100000/\(Txt.split z y).length<=100000/\Q (.ro ((Txt.split z y).map D.str)) p2
theorem vU (hK:X.K=C.K) (ho:PE X o (Up C to)) (ha:PA X [e] (iz C cR))
  (B:attributeBase o "split" X.env (eval o X.env)=eval o X.env:=by rfl)
  (J:((backTo pos (starEach [e] X.env)).all (λx=>!x.1) && (backToKw pos (keywordEach [] X.env)).all (λx=>x.1.isSome)
   && decide ([e].length+([]:List Keyword).length+(if ([]:List Keyword).isEmpty then 0 else 1)<30))=true:=by rfl)
  (n:(apos.endLine == pos.line)=true:=by rfl) (hs:starEach [e] X.env=(false,eval e X.env)::starEach [] X.env:=by rfl):PE X (.Call (.Attribute o "split" apos) [e] [] pos) (nj C (DQ to cR)):=by
 refine QN.mk (JP PySem.F.plainAttrs_str PySem.F.slot_str_split PySem.F.type_str_split Km ho ha B J n hs rfl) λp σ F H R rs Z=>?_
 rw [hK]
 refine up1 rs Z λe1 p1 v1 F1 H1 Y s1 sh D O=>?_
 obtain ⟨⟨z,hz⟩,Z⟩:=O
 rw [bZ D hz]
 refine ⟨rfl,eY Y Z λes2 p2 vs2 F2 H2 U s2 I Aw O=>?_⟩
 obtain ⟨e2,z',y,h2,h3,h4,k1,k2,k3,q⟩:=O
 obtain ⟨v,rfl,er⟩:=rY Aw h2
 have e3:=bZ (D.mono s2 I) h3
 rw [bZ D hz] at e3
 cases e3
 exact ⟨z,y,rfl,by rw [bZ er h4],k1,k2,k3,λl hl=>iD U (s1.trans s2) (sh.trans I) hl (aW.Gg _) q⟩
def iqS (n:TQ):t6:=λp Q=>n p λe p1=>∃x:Str,lk p1 e=.str x/\x.cps.all (·<128)=true/\Q x.cps.size (λi=>.str ⟨#[x.cps.getD i 0]⟩) p1
theorem Xv (x:Str):JQ K (Its x) x.cps.size (λi=>.str ⟨#[x.cps.getD i 0]⟩) F:=⟨λi F H _ _ h=>h,λi F H v H' _ _ hi n=>by
 obtain ⟨h1,c,h2,z⟩:=n
 subst h1 z
 have e:x.cps.getD i 0=c:=by rw [Array.getD_eq_getD_getElem?,h2];rfl
 exact .inl ⟨rfl,by rw [e];exact .str _⟩,λ_ _ _ _=>zx _⟩
theorem aaB (O:PE X a (Up C ta)):PI X tg a (uH C (iqS ta)):=
 QI.mk (Wh O) λp σ F H R I J=>up1 I J λe1 p1 Y U H1 n D sh z B=>by obtain ⟨x,h1,h2,q⟩:=B;exact ⟨x,bZ z h1,h2,_,_,p1,U,n,D,sh,Xv x,q⟩
end
abbrev Ik:=List Sl->Addr->Prop
def spX (K:PySem.W.Frag) (S:Ik):Sp:=λvs H _ E=>∃as F n,aX F H/\Ba K F H as vs/\S as n/\∀z H',Post K F H as vs (.rd .non) as .non z H'->E (.ref n) none H'
def GX (C:Pc) (n:Addr->aQ->Prop):Addr->St->Hp->Prop:=λz σ H=>∃p F,RS C p σ F H/\n z p
def Pc.at (C:Pc) (F0:Hp):Pc:={ C with F0:=F0 }
section
variable {X:Cx} {C:Pc} {a b c e:Expr} {ta tb:TQ} {pos np cpos p0:Pos} {p:aQ} {σ:St} {F H:Hp} {st:Stmt} {rest:List Stmt} {es:List Expr} {cR:TAQ} {XE:Addr->aQ->Prop} {x:Str} {t:iU}
theorem RS.at (rs:RS C p σ F H):RS (C.at F) p σ F H:=⟨rs.sub,.refl _,λ_ _ h=>.inl h,rs.keep,rs.grow,rs.len,λi s h=>rs.sl i s h,rs.apart,rs.pin⟩
theorem RS.Ru {B:aQ} (rs:RS C p σ F H) (n:RS (C.at F) B σ' F' H'):RS C B σ' F' H'/\aX F F':=
 ⟨⟨n.sub,rs.ext.trans n.ext,λa o h=>by
   rcases n.new a o h with z|z|z
   ·exact rs.new a o z
   ·exact .inr (.inl z)
   ·exact .inr (.inr z),n.keep,n.grow,n.len,λi s h=>n.sl i s h,n.apart,n.pin⟩,n.ext⟩
def DR (S:Ik) (z:Addr->aQ->Prop) (t:TAQ):TN:=λp _=>t p λes p1=>∃as n,eE p1 es=some as/\(fO es).Nodup/\S as n/\z n (back p1 es as)
theorem k_ {k:Nat} (hK:X.K=C.K) (D:aO X.K X.mg x st ps) (G:bY X.prog X.w X.K X.mg X.base (oV X.prog X.w) k D.f D.fd ps (spX X.K S)) (Z:bR k X.A) (lk:pq X (GX C XE)) (ha:PA X (e::es) (iz C cR))
  (hg:Gl X x:=by rfl) (B:(x == ("__debug__":Str))=false:=by decide) (he:starEach (e::es) X.env=(false,eval e X.env)::starEach es X.env:=by rfl) (hpl:(backTo pos (starEach es X.env)).any (·.1)=false:=by rfl) :
  PE X (.Call (.Name x p0) (e::es) [] pos) (nj C (DR S XE cR)):=
 QN.mk (Kq D G Z lk ha hg B he hpl) λp σ F H R U Y=>eY U Y λes1 p1 O F1 H1 n s1 sh z J=>by
  obtain ⟨as,I,h1,nd,hS,q⟩:=J
  rw [hK]
  exact ⟨as,F1,I,n.sub,(iG n z h1 nd).1,hS,λF' H' po=>⟨I,rfl,_,F',(n.call z h1 nd po).1,q⟩⟩
def DW (n:Addr->aQ->Prop) (z:Addr) (t:TAQ):iU:=λ_ p=>t p λes p1=>es.length<=9/\n z p1
theorem vV {D:Addr} (c:uD X.K X.mg x D) (Z:X.calm=true) (lk:vD X (GX C XE)) (ha:PA X (e::es) (iz C cR))
  (Y:Gl X x:=by rfl) (z:(x == ("__debug__":Str))=false:=by decide) (he:starEach (e::es) X.env=(false,eval e X.env)::starEach es X.env:=by rfl) (hpl:(backTo cpos (starEach es X.env)).any (·.1)=false:=by rfl) :
  PS X (.Raise (some (.Call (.Name x np) (e::es) [] cpos)) none pos) (iV C (DW XE D cR)):=
 QS.mk (Kr c Z lk ha Y z he hpl) λp σ F H E J O=>eY J O λes1 p1 I F1 H1 n s1 sh B ⟨U,q⟩=>⟨by
  rw [<-(qK B).1];exact zQ U (by decide),_,F1,n,q⟩
def Xw (t:iU):iU:=λE p=>t { E with nx:=λ_=>False } p
theorem uJ (O:PS X st (iV C t)):gO X (st::rest) (iV C (Xw t)):=λpins s σ H Y I B=>by
 obtain ⟨p,F,E,D,J,l⟩:=B
 refine wpAny_execs_cons (bu (O pins s σ H _ I ⟨p,F,{ E with nx:=λ_=>False },D,J,Ends.Le.refl _⟩) λf U q=>?_)
 cases f with
 | next=>obtain ⟨_,_,_,_,_,_,_,z⟩:=q;exact z.elim
 | ret u=>obtain ⟨v,σ',H',n,r,q⟩:=q;exact ⟨v,σ',H',n,r,l.rt _ _ q⟩
 | brk=>obtain ⟨σ',H',n,q⟩:=q;exact ⟨σ',H',n,l.bk _ _ q⟩
 | cont=>obtain ⟨σ',H',n,q⟩:=q;exact ⟨σ',H',n,l.ct _ _ q⟩
end
def aaD (L:Addr) (h₀:Heap) (n:Hp) (a C:Addr) (h:Heap):Prop:=
 n a=none/\h₀.get? a=none/\∃oe vs T oT ts,h.get? a=some oe/\oe.cls=.ref C/\oe.data=.fields vs/\vs[1]? = some (.ref T)/\T≠a/\h₀.get? T=none/\n T=none/\h.get? T=some oT/\oT.data=.fields ts/\ts[3]? = some (rawInt L)
def Xx (X:Cx) (C:Pc) (n:Addr->aQ->Prop):Prop:=∀(pins:List (Addr × Obj)) (σ σ':St) (H' F:Hp) (s':Shared) (a Cl L:Addr) (p:aQ),X.env.frame=some L->Inv X pins σ H' s'->aaD L X.s₀.heap H' a Cl s'.heap->RS C p σ' F H'->n Cl p->X.xe (.ref a) s'
theorem sU {h:Heap} {z:Obj} (hT:h.get? T=some z) (hd:z.data=.fields ts) (D:ts[3]? = some y) :
  ∃o' n,(h.update T (Obj.mapFields (·.setIfInBounds 3 x))).get? T=some o'/\o'.data=.fields n/\n[3]? = some x:=by
 have B:=(yF.mp D).1
 refine ⟨_,_,Heap.get?_update_self (Obj.mapFields (·.setIfInBounds 3 x)) hT (Obj.isFreed_of_fields (xg hd _)),xg hd _,by simp [Array.getElem?_setIfInBounds,B]⟩
section
variable {P:Program} {w:World} {K:PySem.W.Frag} {mg:Str->Option Value} {base:Heap} {N:List Str} {qual:Str} {scope:Scope} {f:Addr} {cd:Value} {A:Around} {outer:List Env} {s₀:Shared} {H₀:Hp} {E₀:XK}
theorem Bh {B:List (Addr × Obj)} {σ:St} {U:Hp} {s':Shared} {a C L:Addr} (hL:(fK (oV P w) P w K mg base N qual scope f cd A outer s₀ H₀ E₀).env.frame=some L)
  (I:Inv (fK (oV P w) P w K mg base N qual scope f cd A outer s₀ H₀ E₀) B σ U s') (t:aaD L s₀.heap U a C s'.heap) (q:E₀ (.ref C) none U):(fK (oV P w) P w K mg base N qual scope f cd A outer s₀ H₀ E₀).xe (.ref a) s':=by
 obtain ⟨t0,t1,oe,vs,T,oT,ts,a1,a2,a3,a4,a5,a6,a7,O,J,n⟩:=t
 have hz:=(yF.mp n).1
 show wpAny _ _ (leaving _ _) _ _ s'
 unfold leaving
 refine zh (wpAny_noteFrame_inFlight hL a1 a3 a4 O J n (wpAny_setFlight_none a1 a3 a4 O J hz ?_))
 have Z:∀b,b≠T->(s'.heap.update T (Obj.mapFields (·.setIfInBounds 3 Value.none))).get? b=s'.heap.get? b:=λb D=>yS _ _ (Ne.symm D)
 have nT:T ∉ frs (fK (oV P w) P w K mg base N qual scope f cd A outer s₀ H₀ E₀).stack:=λz=>by
  obtain ⟨_,o',q',nf⟩:=I.stack.mem z
  rw [O] at q';cases q'
  exact nf _ J
 obtain ⟨un,hok⟩:=qI (ex:=[T]) (h':=s'.heap.update T (Obj.mapFields (·.setIfInBounds 3 Value.none))) rfl rfl rfl I ⟨λb o e n1 _=>(Z b (λz=>n1 (by rw [z];exact List.mem_singleton_self _))).trans e,λb o e D=>⟨o.slots,(Z b (λz=>nT (z▸D))).trans e⟩⟩ (λb D=>by rw [zA.mp D];exact ⟨a6,a7⟩)
 obtain ⟨o',Y,c1,c2,c3⟩:=sU (x:=Value.none) O J n
 exact ⟨a,C,U,rfl,I.os,I.bare,un,hok,⟨t0,t1,oe,vs,T,o',Y,(Z a (Ne.symm a5)).trans a1,a2,a3,a4,a5,a6,a7,c1,c2,c3⟩,q⟩
end
abbrev XHp:=Hp->List Sl->Addr->Prop
def Rv (K:PySem.W.Frag) (S:XHp):Sp:=λvs H _ E=>∃as F n,aX F H/\Ba K F H as vs/\S H as n/\∀z H',Post K F H as vs (.rd .non) as .non z H'->E (.ref n) none H'
section
variable {P:Program} {w:World} {K:PySem.W.Frag} {mg:Str->Option Value} {base:Heap}
theorem tZ.Xy {x B:Str} {st:Stmt} {f:Addr} {fd:FuncData} {N ps:List Str} {k:Nat} {S:XHp} (Fn:tZ K x B st f fd) (Sc:au N ps (aa st)) (len:∀H as O,S H as O->as.length=ps.length/\∀(i:Nat) (s:Sl),as[i]? = some s->∃d,s=.d d)
  (Z:∀(D:Value) (A:Around) (outer:List Env) (s:Shared) (H:Hp) (E:XK) (C:Pc) (as:List Sl) (O:Addr) (XE:Addr->aQ->Prop),K=C.K->C.H0=H->C.bs=[]->bR k (A.deeper (envOfC B (aa st) s.heap.objs.size f D))->S H as O->(XE=λc _=>c=O)->
   pq (fK (oV P w) P w K mg base N B (aa st) f D A outer s H E) (GX C XE)->vD (fK (oV P w) P w K mg base N B (aa st) f D A outer s H E) (GX C XE)->Xx (fK (oV P w) P w K mg base N B (aa st) f D A outer s H E) C XE->
   ∃t,gO (fK (oV P w) P w K mg base N B (aa st) f D A outer s H E) (dR st) (iV C t)/\t { nx:=λ_=>False,rt:=λ_ _=>False } (bU N as)):bY P w K mg base (oV P w) (k+1) f fd ps (Rv K S):=by
 obtain ⟨oc,od,kV,doc,pm,an,D,ct,osl,rfl,lk,hcd⟩:=Fn.ex
 refine TJ lk hcd Sc (λvs H Q E Y=>by obtain ⟨as,F,O,_,h2,h3,_⟩:=Y;rw [<-h2.len];exact (len _ as O h3).1) λA outer s H vs Q E hr Y=>?_
 obtain ⟨as,F,O,sFH,ar,hS,hq⟩:=Y
 have al:=(len _ as O hS).2
 have J:∀{p1:aQ} {σ1:St} {F1 H1:Hp},RS ⟨K,F,H,[]⟩ p1 σ1 F1 H1->E (.ref O) none H1:=λ{p1 σ1 F1 H1} n=>by
  refine hq F1 H1 ⟨n.ext,n.sub,n.new,λa o h _=>n.keep a o h (λq hq=>by cases hq),n.grow,λi xs h=>?_,.non⟩
  obtain ⟨d,e⟩:=al i _ h
  cases e
 obtain ⟨t,ht,tq⟩:=Z D A outer s H E ⟨K,F,H,[]⟩ as O _ rfl rfl rfl hr hS rfl
  (λpins σ H1 s1 H' s' a C' I I' tr Y=>by obtain ⟨p1,F1,n,e⟩:=Y;subst e;exact Dn I I' tr (J n))
  (λpins σ H1 s1 s' a C' args I m e0 Y=>by obtain ⟨p1,F1,n,e⟩:=Y;subst e;exact Am (t:=a) I m e0 (J n))
  (λpins σ σ' H' F1 s' a Cl' L p1 hL I tr n e=>by subst e;exact Bh hL I tr (J n))
 have U:∀(i:Nat) (s:Sl),(bU N as)[i]? = some (some s)->as[i]? = some s:=λi s h=>by
  unfold bU at h
  by_cases hi:i<as.length
  ·rw [zP (by simpa using hi)] at h
   simpa using h
  ·rw [zZ (by simpa using xF hi),zU] at h
   split at h<;>cases h
 have rs:RS ⟨K,F,H,[]⟩ (bU N as) (start N vs) F H:=by
  refine ⟨sFH,.refl _,λa o h=>.inl h,λa o h _=>h,λa h=>h,?_,λi s h=>?_,λi j s s' a hij e1 m1 e2 m2 x1 x2=>?_,λq hq=>by cases hq⟩
  ·unfold bU start
   rw [zj,zj,zd,zd,zE,zE,ar.len]
  ·have h':=U i s h
   obtain ⟨v,h1,h2⟩:=ar.at_ i s h'
   obtain ⟨d,rfl⟩:=al i s h'
   refine ⟨v,?_,h2⟩
   unfold start
   have hi:=(zt.mp h1).1
   rw [zP (by simpa using hi)]
   simpa using h1
  ·obtain ⟨d,rfl⟩:=al i s (U i s e1)
   cases m1
 exact ⟨_,ht,bU N as,F,_,rs,tq,⟨λ_ _ ⟨_,_,_,_,z⟩=>z.elim,λ_ _ ⟨_,_,_,_,_,_,_,z⟩=>z.elim,λ_ _ ⟨_,_,_,_,z⟩=>z.elim,λ_ _ ⟨_,_,_,_,z⟩=>z.elim⟩⟩
theorem tZ.Zh {x n:Str} {st:Stmt} {f:Addr} {fd:FuncData} {N ps:List Str} {k:Nat} {S:Ik} (Z:tZ K x n st f fd) (Y:au N ps (aa st)) (len:∀as D,S as D->as.length=ps.length/\∀(i:Nat) (s:Sl),as[i]? = some s->∃d,s=.d d)
  (B:∀(z:Value) (A:Around) (outer:List Env) (s:Shared) (H:Hp) (E:XK) (C:Pc) (as:List Sl) (D:Addr) (XE:Addr->aQ->Prop),K=C.K->bR k (A.deeper (envOfC n (aa st) s.heap.objs.size f z))->S as D->(XE=λc _=>c=D)->
   pq (fK (oV P w) P w K mg base N n (aa st) f z A outer s H E) (GX C XE)->vD (fK (oV P w) P w K mg base N n (aa st) f z A outer s H E) (GX C XE)->
   ∃t,gO (fK (oV P w) P w K mg base N n (aa st) f z A outer s H E) (dR st) (iV C t)/\t { nx:=λ_=>False,rt:=λ_ _=>False } (bU N as)):bY P w K mg base (oV P w) (k+1) f fd ps (spX K S):=
 tZ.Xy (S:=λ_=>S) Z Y (λ_=>len) λz A outer s H E C as D XE U _ _ J O hX lk I _=>B z A outer s H E C as D XE U J O hX lk I
end
section
variable {K:PySem.W.Frag} {C N M NM:Addr} {nm q nm' q':Str} {bs bs':List Value} {hd ab hd' ab':Bool} {sn sn':List Str} {sub sub':List Value} {col col':Option Bool} {dd Kf:Option Addr} {k0 k1 k2 k3 k5 j0 j1 j2 j3 j5:Option Value}
def strKeys (es:Array DictEntry):Bool:=es.toList.all λe=>match e.key with|.str _ _=>true|_=>false
theorem gV {sl:Array (Option Value)} (l:K.lookup N=some ⟨oc,od,.dict es ep,sl⟩) (h:strKeys es=true):PySem.W.nsOkIn K N=true:=by
 unfold PySem.W.nsOkIn
 rw [l]
 show (es.all λe=>match e.key with|.str _ _=>true|_=>false)=true
 rw [<-xp]
 exact h
theorem L_ (l:K.lookup C=some (excClassObj nm q C N bs FJ hd sn sub ab col dd k0 k1 k2 k3 k5 "ValueError.__new__")) (o:PySem.W.nsOkIn K N=true) (i:PySem.W.nsIn K N "__init__"=some none):PySem.W.excIn K C FJ "ValueError.__new__"=true:=by
 have t:PySem.W.tailIn K FJ FJ=true:=by unfold PySem.W.tailIn;simp
 unfold PySem.W.excIn
 rw [l]
 simp [t,o,i]
theorem nZ (l:K.lookup C=some (excClassObj nm q C N bs (.ref M::FJ) hd sn sub ab col dd k0 k1 k2 k3 k5 "ValueError.__new__")) (o:PySem.W.nsOkIn K N=true) (i:PySem.W.nsIn K N "__init__"=some none)
  (B:K.lookup M=some (excClassObj nm' q' M NM bs' FJ hd' sn' sub' ab' col' Kf j0 j1 j2 j3 j5 "ValueError.__new__")) (z:PySem.W.nsOkIn K NM=true) (D:PySem.W.nsIn K NM "__init__"=some none):PySem.W.excIn K C FJ "ValueError.__new__"=true:=by
 have t:PySem.W.tailIn K FJ FJ=true:=by unfold PySem.W.tailIn;simp
 have n:PySem.W.tailIn K FJ (.ref M::FJ)=true:=by
  rw [PySem.W.tailIn]
  simp only [B,z,D,t]
  simp
 unfold PySem.W.excIn
 rw [l]
 simp [n,o,i]
theorem Rw (c:PySem.W.isClsIn K C=true) (y:PySem.W.typeIn K (.ref C)=some (.type "type")) (s:PySem.W.subIn K t (.ref C)=some b) (h:t=.ref C->b=true):PySem.W.kitOne K t (.ref C)=some b:=by
 unfold PySem.W.kitOne
 by_cases e:t=.ref C
 ·rw [zm (by rw [e];simp),h e]
 ·rw [zi (by simp [e])]
  unfold PySem.W.kitCls
  have n:(PySem.W.clsIn K C).isSome=true:=c
  simp only [n,y]
  exact s
theorem Xz (m:PySem.W.kitMeta T=true) (s:PySem.W.subIn K t (.type T)=some b) (h:t=.type T->b=true):PySem.W.kitOne K t (.type T)=some b:=by
 unfold PySem.W.kitOne
 by_cases e:t=.type T
 ·rw [zm (by rw [e];simp),h e]
 ·rw [zi (by simp [e])]
  unfold PySem.W.kitCls
  simp only [m,if_true]
  exact s
end
def aaE:Key->PyData
 | .inl i=>.int i
 | .inr x=>.str x
mutual
def toX:D->PyData
 | .bl b=>.bool b
 | .int i=>.int i
 | .str x=>.str x
 | .lst xs=>.list (toXs xs)
 | .tup xs=>.tuple (toXs xs)
 | .uf ks ds=>.dict ((ks.map aaE).zip (toXs ds))
 | _=>.none
def toXs:List D->List PyData
 | []=>[]
 | x::xs=>toX x::toXs xs
end
mutual
def Ma:D->Bool
 | .atom _=>false
 | .exc _=>false
 | .p8 _=>false
 | .lst xs=>qN xs
 | .tup xs=>qN xs
 | .uf _ ds=>qN ds
 | _=>true
def qN:List D->Bool
 | []=>true
 | x::xs=>Ma x && qN xs
end
section
variable {X:Cx} {pins:List (Addr × Obj)} {s:Shared} {σ:St} {H F:Hp}
inductive Bj:PyData->Prop
 | none:Bj .none
 | bool (b:Bool):Bj (.bool b)
 | int {i:Int}:i.natAbs.log2<1920->Bj (.int i)
 | str {x:Str}:(reprText x).length<=sizeLine->Bj (.str x)
mutual
def Mf:D->Prop
 | .int i=>i.natAbs.log2<1920
 | .str x=>(reprText x).length<=sizeLine
 | .lst xs=>qO xs
 | .tup xs=>qO xs
 | .uf ks ds=>(∀k∈ks,Bj (aaE k))/\qO ds
 | _=>True
def qO:List D->Prop
 | []=>True
 | x::xs=>Mf x/\qO xs
end
end
structure Good (k n:Nat) (d:D):Prop where
 pl:Ma d=true
 sm:Mf d
 dp:(toX d).depth<=k
 sz:(toX d).shown.length<=n
theorem n_:∀ns:List Int,mG (ns.map D.int)=true/\PyData.canLayAll0 (toPs (ns.map D.int))=true/\PyData.depthAll (toPs (ns.map D.int))<=1
 | []=>⟨rfl,rfl,ye _⟩
 | n::r=>by
  obtain ⟨h1,h2,z⟩:=n_ r
  refine ⟨h1,h2,?_⟩
  show max _ _<=1
  exact Nat.max_le.mpr ⟨by first|exact zx 1|exact ye 1,z⟩
theorem xM.ints (ns:List Int):xM (.lst (ns.map D.int)):=⟨(n_ ns).1,(n_ ns).2.1,zQ (Nat.succ_le_succ (n_ ns).2.2) (by decide)⟩
theorem jg:∀ns ms:List Int,Bg (.lst (ns.map D.int)) (.lst (ms.map D.int))=decide (ns=ms)
 | [],[]=>rfl
 | [],_::_=>rfl
 | _::_,[]=>rfl
 | n::r,m::t=>by
  have z:PyData.eqvAll (toPs (r.map D.int)) (toPs (t.map D.int))=decide (r=t):=jg r t
  show ((n == m) && PyData.eqvAll (toPs (r.map D.int)) (toPs (t.map D.int)))=_
  rw [z,Bool.eq_iff_iff];simp
theorem lq (h:xM d):Bg d d=true:=SeqAt.eqv_refl _ h.ly
section
variable {X:Cx} {C:Pc} {e:Expr} {t1 t2:TN}
def nOr (z n:TN):TN:=λp Q=>z p Q\/n p Q
theorem aaF (U:PE X e (nj C t1)) (O:PE X e (nj C t2)):PE X e (nj C (nOr t1 t2)):=λpins s σ H Q I D=>by
 obtain ⟨p,F,R,n,J,B⟩:=D
 rcases J with z|z
 ·exact U pins s σ H Q I ⟨p,F,R,n,z,B⟩
 ·exact O pins s σ H Q I ⟨p,F,R,n,z,B⟩
end
def Pc.add (C:Pc) (W:Hp):Pc:=⟨C.K,C.F0,λa=>match W a with|some o=>some o|none=>C.H0 a,C.bs⟩
def Hp0:Hp:=λ_=>none
def Hld (o:HO):Prop:=(∃vs,o=.lst vs)\/(∃kvs,o=.dK kvs)\/(∃C dx fs,o=.ins C dx fs)\/∃x,o=.own x
structure cH (C:Pc) (W:Hp):Prop where
 lst:∀a o,W a=some o->Hld o
 h0:∀a o,W a=some o->C.H0 a=none
 f0:∀a o,W a=some o->C.F0 a=none
 bs:∀a o,W a=some o->∀q∈C.bs,q.2≠a
theorem cH.nil (C:Pc):cH C Hp0:=⟨λ_ _ h=>(nomatch h),λ_ _ h=>(nomatch h),λ_ _ h=>(nomatch h),λ_ _ h=>(nomatch h)⟩
section
variable {X:Cx} {C:Pc} {W:Hp} {p:aQ} {σ:St} {F H:Hp} {a:Addr} {o:HO}
theorem gr (h:W a=some o):(C.add W).H0 a=some o:=by show (match W a with|some o=>some o|none=>C.H0 a)=_;rw [h]
theorem h_ (h:W a=none):(C.add W).H0 a=C.H0 a:=by show (match W a with|some o=>some o|none=>C.H0 a)=_;rw [h]
theorem gH (h:(C.add W).H0 a=none):W a=none/\C.H0 a=none:=by
 cases e:W a with
 | none=>exact ⟨rfl,by rw [<-h_ (C:=C) e];exact h⟩
 | some o=>rw [gr e] at h;cases h
theorem cH.non (ok:cH C W) (h:C.H0 a=some o):W a=none:=by
 cases e:W a with
 | none=>rfl
 | some u=>rw [ok.h0 a u e] at h;cases h
theorem RS.wH (rs:RS (C.add W) p σ F H) (ok:cH C W) (h:W a=some o):H a=some o:=rs.keep a o (gr h) (ok.bs a o h)
theorem RS.wF (rs:RS (C.add W) p σ F H) (ok:cH C W) (h:W a=some o):F a=none:=by
 cases e:F a with
 | none=>rfl
 | some u=>
  rcases rs.new a u e with z|z|⟨xs,z⟩
  ·rw [show (C.add W).F0 a=C.F0 a from rfl,ok.f0 a o h] at z;cases z
  ·rw [gr h] at z;cases z
  ·have:=rs.sub a u e
   rw [rs.wH ok h,z] at this
   rcases ok.lst a o h with ⟨vs,rfl⟩|⟨vs,rfl⟩|⟨_,_,_,rfl⟩|⟨vs,rfl⟩<;>cases this
theorem RS.un (rs:RS (C.add W) p σ F H) (ok:cH C W):RS C p σ F H:=by
 refine ⟨rs.sub,rs.ext,λb u e=>?_,λb u e n=>rs.keep b u (by rw [h_ (ok.non e)];exact e) n,λb n=>rs.grow b λz=>n (gH z).2,rs.len,λi s e=>?_,rs.apart,rs.pin⟩
 ·rcases rs.new b u e with z|z|z
  ·exact .inl z
  ·exact .inr (.inl (gH z).2)
  ·exact .inr (.inr z)
 ·obtain ⟨v,e1,r⟩:=rs.sl i s e
  refine ⟨v,e1,?_⟩
  cases s with
  | d x=>exact r
  | own xs=>obtain ⟨b,vs,O,J,I,D,B⟩:=r;exact ⟨b,vs,O,J,(gH I).2,D,B⟩
  | bor xs=>exact r
theorem RS.ad (rs:RS C p σ F H) (B:∀a o,W a=some o->H a=some o/\F a=none)
  (Y:∀(i:Nat) (xs:List D) (a:Addr),p[i]? = some (some (.own xs))->σ[i]? = some (some (.ref a))->W a=none):RS (C.add W) p σ F H:=by
 refine ⟨rs.sub,rs.ext,λb u e=>?_,λb u e n=>?_,λb n=>?_,rs.len,λi s e=>?_,rs.apart,rs.pin⟩
 ·rcases rs.new b u e with z|z|z
  ·exact .inl z
  ·refine .inr (.inl ?_)
   cases q:W b with
   | none=>rw [h_ q];exact z
   | some w=>rw [(B b w q).2] at e;cases e
  ·exact .inr (.inr z)
 ·cases q:W b with
  | none=>rw [h_ q] at e;exact rs.keep b u e n
  | some w=>rw [gr q] at e;cases e;exact (B b _ q).1
 ·cases q:W b with
  | none=>rw [h_ q] at n;exact rs.grow b n
  | some w=>intro z;rw [(B b _ q).1] at z;cases z
 ·obtain ⟨v,e1,r⟩:=rs.sl i s e
  refine ⟨v,e1,?_⟩
  cases s with
  | d x=>exact r
  | own xs=>
   obtain ⟨b,vs,rfl,U,O,J,I⟩:=r
   exact ⟨b,vs,rfl,U,by rw [h_ (Y i xs b e e1)];exact O,J,I⟩
  | bor xs=>exact r
theorem RS.wO (rs:RS (C.add W) p σ F H) {i:Nat} {xs:List D} (e:p[i]? = some (some (.own xs))) (B:σ[i]? = some (some (.ref a))):W a=none/\∃vs,H a=some (.lst vs):=by
 obtain ⟨v,e2,b,vs,rfl,J,z,n,I⟩:=rs.sl i _ e
 rw [B] at e2;cases e2
 exact ⟨(gH z).1,vs,n⟩
theorem RS.Mg {o us:HO} (rs:RS (C.add W) p σ F H) (ok:cH C W) (h:W a=some o) (hn:Hld us) :
  RS (C.add (upd W a us)) p σ F (upd H a us)/\cH C (upd W a us):=by
 have D:=rs.un ok
 have fa:=rs.wF ok h
 have J:∀b o,upd W a us b=some o->∃o',W b=some o':=λb o e=>by
  by_cases B:b=a
  ·subst B;exact ⟨_,h⟩
  ·rw [az B] at e;exact ⟨_,e⟩
 refine ⟨RS.ad ⟨λb u e=>?_,D.ext,D.new,λb u e n=>?_,λb n e=>?_,D.len,λi s e=>?_,D.apart,D.pin⟩ (λb u e=>?_) (λi xs b e e1=>?_),⟨λb u e=>?_,λb u e=>?_,λb u e=>?_,λb u e=>?_⟩⟩
 ·rw [az (λz=>by rw [z,fa] at e;cases e)];exact D.sub b u e
 ·have B:b≠a:=λz=>by rw [z,ok.h0 a _ h] at e;cases e
  rw [az B];exact D.keep b u e n
 ·by_cases B:b=a
  ·subst B;rw [aJ] at e;cases e
  ·rw [az B] at e;exact D.grow b n e
 ·obtain ⟨v,e1,r⟩:=rs.sl i s e
  obtain ⟨v',O,r'⟩:=D.sl i s e
  rw [e1] at O;cases O
  refine ⟨v,e1,?_⟩
  cases s with
  | d x=>exact r'
  | own xs=>
   obtain ⟨b,I,rfl,z2,Y,z4,Z⟩:=r'
   have B:b≠a:=λz=>by have:=(rs.wO e e1).1;rw [z,h] at this;cases this
   exact ⟨b,I,rfl,z2,Y,by rw [az B];exact z4,Z⟩
  | bor xs=>
   obtain ⟨b,I,rfl,z2,⟨q,hq,Y⟩,z4,Z⟩:=r'
   have B:b≠a:=λz=>ok.bs a _ h q hq (Y.trans z)
   exact ⟨b,I,rfl,z2,⟨q,hq,Y⟩,by rw [az B];exact z4,Z⟩
 ·by_cases B:b=a
  ·subst B;rw [aJ] at e ⊢;exact ⟨e,fa⟩
  ·rw [az B] at e ⊢;exact ⟨rs.wH ok e,rs.wF ok e⟩
 ·have:=(rs.wO e e1).1
  by_cases B:b=a
  ·subst B;rw [h] at this;cases this
  ·rw [az B];exact this
 ·by_cases B:b=a
  ·subst B;rw [aJ] at e;cases e;exact hn
  ·rw [az B] at e;exact ok.lst b u e
 ·obtain ⟨o',U⟩:=J b u e;exact ok.h0 b o' U
 ·obtain ⟨o',U⟩:=J b u e;exact ok.f0 b o' U
 ·obtain ⟨o',U⟩:=J b u e;exact ok.bs b o' U
theorem RS.aaH (rs:RS (C.add W) p σ F H) (ok:cH C W) (h:W a=some (.lst vs)) :
  RS (C.add (upd W a (.lst us))) p σ F (upd H a (.lst us))/\cH C (upd W a (.lst us)):=rs.Mg ok h (.inl ⟨_,rfl⟩)
theorem RS.Gi {vs:HO} (rs:RS (C.add W) p σ F H) (ok:cH C W) (D:F a=none) (h2:(C.add W).H0 a=none) (Z:H a=some vs) (Y:Hld vs) (I:Dq p σ a) :
  RS (C.add (upd W a vs)) p σ F H/\cH C (upd W a vs):=by
 have B:=rs.un ok
 obtain ⟨w0,c0⟩:=gH h2
 refine ⟨B.ad (λb u e=>?_) (λi xs b e e1=>?_),⟨λb u e=>?_,λb u e=>?_,λb u e=>?_,λb u e=>?_⟩⟩
 ·by_cases n:b=a
  ·subst n;rw [aJ] at e;cases e;exact ⟨Z,D⟩
  ·rw [az n] at e;exact ⟨rs.wH ok e,rs.wF ok e⟩
 ·have:=(rs.wO e e1).1
  by_cases n:b=a
  ·subst n;exact absurd e1 (I i _ e rfl)
  ·rw [az n];exact this
 ·by_cases n:b=a
  ·subst n;rw [aJ] at e;cases e;exact Y
  ·rw [az n] at e;exact ok.lst b u e
 ·by_cases n:b=a
  ·subst n;exact c0
  ·rw [az n] at e;exact ok.h0 b u e
 ·by_cases n:b=a
  ·subst n
   cases q:C.F0 b with
   | none=>rfl
   | some w=>rw [B.ext b w q] at D;cases D
  ·rw [az n] at e;exact ok.f0 b u e
 ·by_cases n:b=a
  ·subst n
   intro q U z
   obtain ⟨O,xs,J⟩:=B.pin q U
   exact I q.1 _ J rfl (by rw [O,z])
  ·rw [az n] at e;exact ok.bs b u e
theorem RS.take (rs:RS (C.add W) p σ F H) (ok:cH C W) (D:F a=none) (B:(C.add W).H0 a=none) (z:H a=some (.lst vs)) (n:Dq p σ a) :
  RS (C.add (upd W a (.lst vs))) p σ F H/\cH C (upd W a (.lst vs)):=rs.Gi ok D B z (.inl ⟨_,rfl⟩) n
end
structure jG where
 nx:Hp->aQ->Prop
 rt:Rt->Hp->aQ->Prop
 bk:Hp->aQ->Prop:=λ_ _=>False
 ct:Hp->aQ->Prop:=λ_ _=>False
abbrev lH:=jG->Hp->aQ->Prop
def jG.dn (C:Pc) (F0:Hp) (E:jG):Ends where
 nx:=λσ H=>∃W p F,RS (C.add W) p σ F H/\cH C W/\aX F0 F/\E.nx W p
 rt:=λv H=>∃r W p σ F,RS (C.add W) p σ F H/\cH C W/\aX F0 F/\Kz (C.add W) p σ F H r v/\E.rt r W p
 bk:=λσ H=>∃W p F,RS (C.add W) p σ F H/\cH C W/\aX F0 F/\E.bk W p
 ct:=λσ H=>∃W p F,RS (C.add W) p σ F H/\cH C W/\aX F0 F/\E.ct W p
theorem vW {E:jG} (s:aX F F1):(E.dn C F1).Le (E.dn C F):=⟨λ_ _ n=>by obtain ⟨W,p,G,a,k,b,c⟩:=n;exact ⟨W,p,G,a,k,s.trans b,c⟩,λ_ _ n=>by obtain ⟨r,W,p,σ,G,a,k,b,c⟩:=n;exact ⟨r,W,p,σ,G,a,k,s.trans b,c⟩,λ_ _ n=>by obtain ⟨W,p,G,a,k,b,c⟩:=n;exact ⟨W,p,G,a,k,s.trans b,c⟩,λ_ _ n=>by obtain ⟨W,p,G,a,k,b,c⟩:=n;exact ⟨W,p,G,a,k,s.trans b,c⟩⟩
def j6 (C:Pc) (t:lH):TS:=λn σ H=>∃W p F E,RS (C.add W) p σ F H/\cH C W/\t E W p/\(E.dn C F).Le n
section
variable {X:Cx} {C:Pc} {a b c e:Expr} {pos:Pos} {K:PySem.W.Frag} {p:aQ} {σ:St} {F H:Hp} {st:Stmt} {rest:List Stmt} {t u:lH}
theorem VS.mk {t:TS} (h:PS X st t) (hi:∀W p σ F H E,RS (C.add W) p σ F H->cH C W->t' E W p->t (E.dn C F) σ H):PS X st (j6 C t'):=λpins s σ H D I n=>by
 obtain ⟨W,p,F,E,z,ok,B,l⟩:=n
 exact bu (h pins s σ H _ I (hi W p σ F H E z ok B)) λ_ _ q=>q.le l
theorem VSs.mk {t:TS} (h:gO X sts t) (hi:∀W p σ F H E,RS (C.add W) p σ F H->cH C W->t' E W p->t (E.dn C F) σ H):gO X sts (j6 C t'):=λpins s σ H D I n=>by
 obtain ⟨W,p,F,E,z,ok,B,l⟩:=n
 exact bu (h pins s σ H _ I (hi W p σ F H E z ok B)) λ_ _ q=>q.le l
def Mh (t:Hp->iU):lH:=λE W p=>t W { nx:=E.nx W,rt:=λr=>E.rt r W,bk:=E.bk W,ct:=E.ct W } p
theorem Rx {E:jG} (ok:cH C W):(jb.dn (C.add W) F { nx:=E.nx W,rt:=λr=>E.rt r W,bk:=E.bk W,ct:=E.ct W }).Le (E.dn C F):=
 ⟨λ_ _ n=>by obtain ⟨p,G,a,b,c⟩:=n;exact ⟨W,p,G,a,ok,b,c⟩,λ_ _ n=>by obtain ⟨r,p,σ,G,a,b,c,d⟩:=n;exact ⟨r,W,p,σ,G,a,ok,b,c,d⟩,λ_ _ n=>by obtain ⟨p,G,a,b,c⟩:=n;exact ⟨W,p,G,a,ok,b,c⟩,λ_ _ n=>by obtain ⟨p,G,a,b,c⟩:=n;exact ⟨W,p,G,a,ok,b,c⟩⟩
theorem aZ {t:Hp->iU} (h:∀W,cH C W->PS X st (iV (C.add W) (t W))):PS X st (j6 C (Mh t)):=λpins s σ H D I n=>by
 obtain ⟨W,p,F,E,z,ok,B,l⟩:=n
 exact h W ok pins s σ H D I ⟨p,F,_,z,B,(Rx ok).trans l⟩
def Mi:lH:=λE W p=>E.nx W p
def uh (t u:lH):lH:=λE W p=>t { E with nx:=u E } W p
theorem Ua:gO X [] (j6 C Mi):=VSs.mk u6 λW p σ F H E n ok q=>⟨W,p,F,n,ok,.refl _,q⟩
theorem aR (U:PS X st (j6 C t)) (O:gO X rest (j6 C u)):gO X (st::rest) (j6 C (uh t u)):=
 VSs.mk (xV U O) λW p σ F H E J ok q=>⟨W,p,F,_,J,ok,q,⟨λB H1 D=>by obtain ⟨Y,p1,Z,n,z,I,q1⟩:=D;exact ⟨Y,p1,Z,E,n,z,q1,vW I⟩,λ_ _ h=>h,λ_ _ h=>h,λ_ _ h=>h⟩⟩
theorem cU (n:PS X st (j6 C t)):gO X [st] (j6 C t):=Fi n
def jG.of (E:jb):jG:={ nx:=λ_=>E.nx,rt:=λr _=>E.rt r,bk:=λ_=>E.bk,ct:=λ_=>E.ct }
theorem Kz.un (h:Kz (C.add W) p σ F H r v):Kz C p σ F H r v:=by
 cases r with
 | rd x=>exact h
 | ro xs=>obtain ⟨y,vs,J,I,D,B,z,n⟩:=h;exact ⟨y,vs,J,I,(gH D).2,B,z,n⟩
theorem of_le {E:jb}:((jG.of E).dn C F).Le (E.dn C F):=⟨λ_ _ n=>by obtain ⟨W,p,G,a,k,b,c⟩:=n;exact ⟨p,G,a.un k,b,c⟩,λ_ _ n=>by obtain ⟨r,W,p,σ,G,a,k,b,c,d⟩:=n;exact ⟨r,p,σ,G,a.un k,b,c.un,d⟩,λ_ _ n=>by obtain ⟨W,p,G,a,k,b,c⟩:=n;exact ⟨p,G,a.un k,b,c⟩,λ_ _ n=>by obtain ⟨W,p,G,a,k,b,c⟩:=n;exact ⟨p,G,a.un k,b,c⟩⟩
def XC (t:lH):iU:=λE p=>t (jG.of E) Hp0 p
theorem DX (h:gO X sts (j6 C t)):gO X sts (iV C (XC t)):=λpins s σ H D I n=>by
 obtain ⟨p,F,E,z,B,l⟩:=n
 exact h pins s σ H D I ⟨Hp0,p,F,_,z,.nil C,B,of_le.trans l⟩
def aek (C:Pc) (t:Hp->TQ):TE:=λσ H Q=>∃W,cH C W/\Up (C.add W) (t W) σ H Q
def ael (C:Pc) (t:Hp->m9):TT:=λσ H Q=>∃W,cH C W/\gB (C.add W) (t W) σ H Q
def aem (C:Pc) (t:Hp->TAQ):TA:=λσ H Q=>∃W,cH C W/\iz (C.add W) (t W) σ H Q
def aaI (C:Pc) (t:Hp->t6):TI:=λσ H Q=>∃W,cH C W/\uH (C.add W) (t W) σ H Q
def aen (C:Pc) (t:Hp->rZ):TG:=λv σ H Q=>∃W,cH C W/\Ie (C.add W) (t W) v σ H Q
theorem pH {t:Hp->TQ} (h:∀W,cH C W->PE X e (Up (C.add W) (t W))):PE X e (aek C t):=λpins s σ H Q I n=>by obtain ⟨W,ok,z⟩:=n;exact h W ok pins s σ H Q I z
theorem aaJ {t:Hp->m9} (h:∀W,cH C W->PT X e (gB (C.add W) (t W))):PT X e (ael C t):=λpins s σ H Q I n=>by obtain ⟨W,ok,z⟩:=n;exact h W ok pins s σ H Q I z
theorem aaK {t:Hp->TAQ} (h:∀W,cH C W->PA X es (iz (C.add W) (t W))):PA X es (aem C t):=λpos pins s σ H Q I n=>by obtain ⟨W,ok,z⟩:=n;exact h W ok pos pins s σ H Q I z
theorem aaL {t:Hp->t6} (h:∀W,cH C W->PI X tg it (uH (C.add W) (t W))):PI X tg it (aaI C t):=λpins s σ H Q I n=>by obtain ⟨W,ok,z⟩:=n;exact h W ok pins s σ H Q I z
theorem aeo {t:Hp->rZ} (h:∀W,cH C W->PG X tg (Ie (C.add W) (t W))):PG X tg (aen C t):=λpins s σ H v u Q I r n=>by obtain ⟨W,ok,z⟩:=n;exact h W ok pins s σ H v u Q I r z
def Ry (ti:Hp->t6) (g:Hp->rZ) (B:lH):lH:=λE W p=>ti W p λn item p1=>∃I:Nat->Hp->aQ->Prop,I 0 W p1/\(∀i z p2,i<n->I i z p2->g z (item i) p2 λD=>B { E with nx:=I (i+1),ct:=I (i+1),bk:=E.nx } z D)/\∀z p2,I n z p2->E.nx z p2
theorem oh (hp:PassesOwn (model X.prog X.w) X.A X.env X.xe) (hc:X.calm=true) (hi:∀W,cH C W->PI X tg iter (uH (C.add W) (ti W))) (hg:∀W,cH C W->PG X tg (Ie (C.add W) (g W))) (hb:gO X body (j6 C tb))
  (hs:∀x,foldedSetIterable iter X.env x=pure x:=by intro _;rfl):PS X (.For tg iter body [] pos) (j6 C (Ry ti g tb)):=
 VS.mk (Jw hp hc (aaL hi) (aeo hg) hb hs) λW p σ F H E rs ok ht=>⟨W,ok,p,F,_,rs,ht,λJ H1 z=>by
  obtain ⟨n,item,p1,F1,Ga,s1,Li,jq,I,i0,Z,DG⟩:=z
  refine ⟨λi m σ H=>m=n - i/\i<=n/\∃W p F,RS (C.add W) p σ F H/\cH C W/\aX F1 F/\I i W p,⟨n,by simp,ye _,W,p1,F1,Ga,ok,.refl _,i0⟩,?_⟩
  rintro i m σ2 H2 ⟨rfl,hi,W2,p2,F2,D,Y,s2,i2⟩
  by_cases O:i<n
  ·refine .inr ⟨jq.go i F2 H2 D.sub s2 O,λσ' H'=>∃W p F,RS (C.add W) p σ' F H'/\cH C W/\aX F1 F/\I (i+1) W p,λσ' H' h=>⟨n - (i+1),by omega,rfl,O,h⟩,λx H' y=>?_⟩
   obtain ⟨F3,Jj,s3,r3⟩:=JQ.out (C:=C.add W2) jq D s2 O y
   refine ⟨W2,Y,p2,F3,item i,_,Jj,r3,Z i W2 p2 O i2,λσ4 H4 ⟨p4,F4,Rj,s4,q4⟩=>⟨W2,p4,F4,_,Rj,Y,q4,?_⟩⟩
   have B:aX F1 F4:=s2.trans (s3.trans s4)
   exact ⟨λ_ _ z=>by obtain ⟨W5,U,F5,a,k,b,c⟩:=z;exact ⟨W5,U,F5,a,k,B.trans b,c⟩,λ_ _ z=>by obtain ⟨r,W5,U,σ5,F5,a,k,b,c⟩:=z;exact ⟨r,W5,U,σ5,F5,a,k,s1.trans (B.trans b),c⟩,λ_ _ z=>by obtain ⟨W5,U,F5,a,k,b,c⟩:=z;exact ⟨W5,U,F5,a,k,s1.trans (B.trans b),c⟩,λ_ _ z=>by obtain ⟨W5,U,F5,a,k,b,c⟩:=z;exact ⟨W5,U,F5,a,k,B.trans b,c⟩⟩
  ·have e:i=n:=by omega
   subst e
   exact .inl ⟨jq.stop F2 H2 D.sub s2,W2,p2,F2,D,Y,s1.trans s2,DG W2 p2 i2⟩⟩
def Mj (c:Hp->m9) (B:lH):lH:=λE W p=>∃(I:Hp->aQ->Prop) (n:aQ->Nat),I W p/\∀z p1,I z p1->c z p1 λb p2=>if b=true then B { E with nx:=λW q=>I W q/\n q<n p1,ct:=λW q=>I W q/\n q<n p1,bk:=E.nx } z p2 else E.nx z p2
theorem Rz {c:Expr} (hp:PassesOwn (model X.prog X.w) X.A X.env X.xe) (hc:∀W,cH C W->PT X c (gB (C.add W) (tc W))) (hb:gO X body (j6 C tb)):PS X (.While c body [] pos) (j6 C (Mj tc tb)):=
 VS.mk (xY hp (aaJ hc) hb) λW p σ F H E rs ok n=>by
  obtain ⟨I,μ,i0,step⟩:=n
  refine ⟨λm Y H1=>∃B p1 F1,RS (C.add B) p1 Y F1 H1/\cH C B/\aX F F1/\I B p1/\m=μ p1,⟨_,W,p,F,rs,ok,.refl _,i0,rfl⟩,?_⟩
  rintro m Y H1 ⟨B,p1,F1,Ga,J,s1,i1,rfl⟩
  refine ⟨B,J,qj Ga (step B p1 i1) λk p2 F2 H2 Z s2 sh q=>?_⟩
  refine d7 (λq=>?_) (λq=>?_) q
  ·refine ⟨λσ' H'=>∃W' p' F',RS (C.add W') p' σ' F' H'/\cH C W'/\aX F F'/\I W' p'/\μ p'<μ p1,λσ' H' n=>by obtain ⟨W',p',F',z1,z0,z2,z3,z4⟩:=n;exact ⟨_,z4,W',p',F',z1,z0,z2,z3,rfl⟩,B,p2,F2,_,Z,J,q,?_⟩
   have z:=s1.trans s2
   exact ⟨λ_ _ n=>by obtain ⟨O,D,U,a,k,b,c,d⟩:=n;exact ⟨O,D,U,a,k,z.trans b,c,d⟩,λ_ _ n=>by obtain ⟨r,O,D,σ5,U,a,k,b,c⟩:=n;exact ⟨r,O,D,σ5,U,a,k,z.trans b,c⟩,λ_ _ n=>by obtain ⟨O,D,U,a,k,b,c⟩:=n;exact ⟨O,D,U,a,k,z.trans b,c⟩,λ_ _ n=>by obtain ⟨O,D,U,a,k,b,c,d⟩:=n;exact ⟨O,D,U,a,k,z.trans b,c,d⟩⟩
  ·exact ⟨B,p2,F2,Z,J,s1.trans s2,q⟩
end
structure Ub (K:PySem.W.Frag) (F H W:Hp) (r:D) (v:V) (W' F' H':Hp):Prop where
 ext:aX F F'
 sub:aX F' H'
 new:∀a o,F' a=some o->F a=some o\/H a=none\/W a≠none\/∃xs,o=.tup xs
 keep:∀a o,H a=some o->W a=none->H' a=some o
 wH:∀a o,W' a=some o->H' a=some o/\F' a=none/\Hld o/\(W a≠none\/H a=none)
 res:Rep K F' r v
abbrev Cu:=Hp->List D->(D->Hp->Prop)->Prop
def Jk (K:PySem.W.Frag) (S:Cu):Sp:=λvs H Q _=>∃W ds F R,aX F H/\(∀a o,W a=some o->H a=some o/\F a=none/\Hld o)/\aW K F ds vs/\S W ds R/\∀r v n z H',Ub K F H W r v n z H'->R r n->Q v H'
section
variable {X:Cx} {C:Pc} {W:Hp} {p:aQ} {σ:St} {F H:Hp} {a:Addr} {o:HO}
theorem RS.Ml {r:D} {v:V} {W' Y H':Hp} (rs:RS (C.add W) p σ F H) (ok:cH C W) (po:Ub C.K F H W r v W' Y H'):RS (C.add W') p σ Y H'/\cH C W':=by
 have B:=rs.un ok
 have fr:∀b vs,W b=none->F b=none->H b=some (.lst vs)->Y b=none/\H' b=some (.lst vs):=λb vs h1 h2 h3=>by
  have hk:=po.keep b _ h3 h1
  refine ⟨?_,hk⟩
  cases q:Y b with
  | none=>rfl
  | some u=>
   rcases po.new b u q with z|z|z|⟨xs,z⟩
   ·rw [h2] at z;cases z
   ·rw [h3] at z;cases z
   ·exact absurd h1 z
   ·have:=po.sub b u q
    rw [hk,z] at this;cases this
 have bW:∀q∈C.bs,W q.2=none:=λq J=>by
  cases e:W q.2 with
  | none=>rfl
  | some u=>exact absurd rfl (ok.bs _ u e q J)
 have nH:∀b,H b=none->C.H0 b=none:=λb e=>by
  cases q:C.H0 b with
  | none=>rfl
  | some u=>exact absurd e (B.grow b (by rw [q];intro z;cases z))
 have h0':∀b u,W' b=some u->C.H0 b=none:=λb u e=>by
  rcases (po.wH b u e).2.2.2 with z|z
  ·cases q:W b with
   | none=>exact absurd q z
   | some w=>exact ok.h0 b w q
  ·exact nH b z
 refine ⟨RS.ad ⟨po.sub,B.ext.trans po.ext,λb u e=>?_,λb u e n=>po.keep b u (B.keep b u e n) (ok.non e),λb n z=>?_,B.len,λi s e=>?_,B.apart,B.pin⟩ (λb u e=>⟨(po.wH b u e).1,(po.wH b u e).2.1⟩) (λi xs b e e1=>?_),⟨λb u e=>(po.wH b u e).2.2.1,h0',λb u e=>?_,λb u e q J z=>?_⟩⟩
 ·rcases po.new b u e with z|z|z|z
  ·exact B.new b u z
  ·exact .inr (.inl (nH b z))
  ·cases q:W b with
   | none=>exact absurd q z
   | some w=>exact .inr (.inl (ok.h0 b w q))
  ·exact .inr (.inr z)
 ·cases q:C.H0 b with
  | none=>exact n q
  | some u=>
   cases q2:H b with
   | none=>exact B.grow b n q2
   | some u2=>rw [po.keep b u2 q2 (ok.non q)] at z;cases z
 ·obtain ⟨w,e1,r⟩:=B.sl i s e
  refine ⟨w,e1,?_⟩
  cases s with
  | d x=>exact Rep.mono po.ext r
  | own xs=>
   obtain ⟨b,vs,rfl,I,U,O,Z⟩:=r
   obtain ⟨y1,y2⟩:=fr b vs (rs.wO e e1).1 I O
   exact ⟨b,vs,rfl,y1,U,y2,Z.mono po.ext⟩
  | bor xs=>
   obtain ⟨b,vs,rfl,I,⟨q,J,U⟩,O,Z⟩:=r
   obtain ⟨y1,y2⟩:=fr b vs (U▸bW q J) I O
   exact ⟨b,vs,rfl,y1,⟨q,J,U⟩,y2,Z.mono po.ext⟩
 ·obtain ⟨z1,vs,I⟩:=rs.wO e e1
  cases q:W' b with
  | none=>rfl
  | some u=>
   rcases (po.wH b u q).2.2.2 with z|z
   ·exact absurd z1 z
   ·rw [I] at z;cases z
 ·cases q:C.F0 b with
  | none=>rfl
  | some w=>
   have:=(B.ext.trans po.ext) b w q
   rw [(po.wH b u e).2.1] at this;cases this
 ·rcases (po.wH b u e).2.2.2 with y|y
  ·exact y (z▸bW q J)
  ·obtain ⟨z1,xs,I⟩:=B.pin q J
   obtain ⟨w,e1,c,vs,e2,_,_,O,_⟩:=B.sl _ _ I
   rw [z1] at e1;cases e1;cases e2
   rw [z,y] at O;cases O
end
abbrev DY:=Hp->aQ->(D->Hp->aQ->Prop)->Prop
def qm (C:Pc) (t:DY):TE:=λσ H Q=>∃W p F R,RS (C.add W) p σ F H/\cH C W/\t W p R/\∀d v n p1 z H1,RS (C.add n) p1 σ z H1->cH C n->aX F z->Rep C.K z d v->R d n p1->Q v H1
section
variable {X:Cx} {C:Pc} {a b c e o k:Expr} {es:List Expr} {pos:Pos} {K:PySem.W.Frag} {p:aQ} {σ:St} {F H:Hp} {st:Stmt} {rest:List Stmt} {t u:lH}
def Mm (S:Cu) (t:Hp->TAQ):DY:=λW p Q=>t W p λes p1=>∃ds,P_ es=some ds/\S W ds λr n=>Q r n p1
theorem ig {st:Stmt} {k:Nat} (hK:X.K=C.K) (D:aO X.K X.mg x st ps) (G:bY X.prog X.w X.K X.mg X.base m8 k D.f D.fd ps (Jk X.K S)) (hr:bR k X.A) (ha:∀W,cH C W->PA X (e::es) (iz (C.add W) (cR W)))
  (hg:Gl X x:=by rfl) (U:(x == ("__debug__":Str))=false:=by decide) (he:starEach (e::es) X.env=(false,eval e X.env)::starEach es X.env:=by rfl) (hpl:(backTo pos (starEach es X.env)).any (·.1)=false:=by rfl) :
  PE X (.Call (.Name x p0) (e::es) [] pos) (qm C (Mm S cR)):=λpins s σ H Q I B=>by
 obtain ⟨W,p,F,R,rs,ok,ht,hq⟩:=B
 refine rK D G hr (aaK ha) hg U he hpl pins s σ H Q I ?_
 refine ⟨W,ok,eY rs ht λes1 p1 Z F1 H1 n s1 sh Y B=>?_⟩
 obtain ⟨ds,h1,q⟩:=B
 rw [zW,hK]
 refine ⟨W,ds,F1,_,n.sub,λb u z=>⟨n.wH ok z,n.wF ok z,ok.lst b u z⟩,rW (C:=C.add W) Y h1,q,λr v W' F' H' po hR=>?_⟩
 obtain ⟨J,O⟩:=RS.Ml n ok po
 exact hq r v W' p1 F' H' J O (s1.trans po.ext) po.res hR
def XD (i:Nat) (t:DY):lH:=λE W p=>t W p λd n p1=>ql p1 i=true/\E.nx n (p1.set i (some (.d d)))
theorem qd {t:DY} (hN:X.N.Nodup) (hi:X.N[i]? = some x) (O:Loc X.env.scope x) (he:PE X e (qm C t)) (Y:swapsWith e (some (.Name x pos')) pos.line X.env=pure false:=by rfl) (hf:X.fn x=true\/X.env.scope.names.lookup x=some .local:=by first|exact .inl rfl|exact .inr rfl|assumption) :
  PS X (.Assign [.Name x pos'] e pos) (j6 C (XD i t)):=
 VS.mk (CJ hN hi O he Y hf) λW p σ F H E I ok U=>⟨W,p,F,_,I,ok,U,λd v W1 p1 F1 H1 n z D J B=>by obtain ⟨Z,q⟩:=B;exact ⟨W1,_,F1,n.Ay Z J,z,D,q⟩⟩
def Mq (t:DY):lH:=λE W p=>t W p λ_ n p1=>E.nx n p1
theorem Mr {t:DY} (he:PE X e (qm C t)) (J:swapsWith e none pos.line X.env=pure false:=by rfl):PS X (.Expr e pos) (j6 C (Mq t)):=
 VS.mk (Fj he J) λW p σ F H E D ok I=>⟨W,p,F,_,D,ok,I,λd v O p1 U H1 n z B Y q=>⟨O,p1,U,n,z,B,q⟩⟩
def vd:V->D
 | .int n=>.int n
 | v=>.atom v
theorem Ms (v:V) (F:Hp):Rep K F (vd v) v:=by cases v<;>first|exact .int _|exact .atom _
def XH (W:Hp) (z n:TQ):TQ:=λp Q=>z p λe1 p1=>n p1 λe2 p2=>∃x vs k v,lk p2 e1=.atom (.ref x)/\W x=some (.lst vs)/\lk p2 e2=.int k/\iy vs k=some v/\Q (.fz (vd v)) p2
theorem dG {D:TQ} (ok:cH C W) (hK:X.K=C.K) (ha:PE X a (Up (C.add W) ta)) (Z:PE X b (Up (C.add W) D)) (Y:nG b):PE X (.Subscript a b pos) (Up (C.add W) (XH W ta D)):=
 QE.mk (JM (J0 hK) ha Z Y) λp σ F H R O U=>rR O U λe1 e2 p1 v1 v2 F1 H1 n J sh B z I=>by
  obtain ⟨x,vs,k,v,h1,h2,h3,h4,q⟩:=I
  rw [aY z h3,dw B h1]
  exact ⟨x,vs,k,v,rfl,rfl,.of (n.wH ok h2),h4,bw n J sh (Ms v F1) q⟩
theorem Il:Zz X (λo i H Q=>∃p xs k v,o=.ref p/\i=.int k/\H p=some (.lst xs)/\0<=k/\xs[k.toNat]? = some v/\Q v H):=by
 intro pins s σ H o i Y Z Q I B D h
 obtain ⟨p,xs,k,v,rfl,rfl,O,h0,z,q⟩:=h
 cases B
 obtain ⟨t,rfl⟩:=D
 obtain ⟨J,r,pl,hz⟩:=I.list (jr.of O)
 obtain ⟨w,U,n⟩:=r.get z
 have hl:=r.length
 have hn:=lY
 have hk:k.toNat<xs.length:=(zt.mp z).1
 exact wpAny_getItem_list pl.isList h0 (by omega) (by simpa using U) ⟨v,H,I,n,q⟩
def Mt (I B D:Hp->TQ):lH:=λE W p=>I W p λev p1=>B W p1 λJ p2=>D W p2 λO z=>∃x vs n k j,lk z ev=.int n/\lk z J=.atom (.ref x)/\W x=some (.lst vs)/\lk z O=.int k/\Ab vs.length k=some j/\E.nx (upd W x (.lst (vs.set j (.int n)))) z
theorem XJ {pt : Pos} (he : ∀ W, cH C W → PE X e (Up (C.add W) (te W))) (ho : ∀ W, cH C W → PE X o (Up (C.add W) (to W))) (hk : ∀ W, cH C W → PE X k (Up (C.add W) (tk W)))
    (ha : ∀ v, assign (.Subscript o k pt) X.env v = (do
      let ov ← holding [v] (eval o X.env)
      let iv ← holding [v, ov] (eval k X.env)
      standAt pt
      holding [v, ov, iv] (setItem ov iv v)
      release [v, ov, iv] []) := by intro _; rfl)
    (hs : swapsWithSole [.Subscript o k pt] e pos.line X.env = pure false := by rfl) (hw : swappedStores [.Subscript o k pt] e X.env = pure none := by rfl)
    (h1 : (assignEach [.Subscript o k pt] X.env).map (·.2) = [assign (.Subscript o k pt) X.env] := by rfl) :
    PS X (.Assign [.Subscript o k pt] e pos) (j6 C (Mt te to tk)) :=
  VS.mk (CG (pH he) (Ju (pH ho) (pH hk) set_list ha) hs hw h1) λW p σ F H E rs ok D => ⟨W, ok, up1 rs D λe1 p1 v1 F1 H1 Y s1 Li Im D =>
    ⟨W, ok, up1 Y D λe2 p2 v2 F2 H2 U s2 I Aw D => ⟨W, ok, up1 U D λe3 p3 v3 F3 H3 B J z er3 zq=>by
      obtain ⟨x, vs, n, k, j, g1, g2, g3, g4, g5, q⟩:=zq
      rw [aY er3 g4, dw (Aw.mono J z) g2, aY ((Im.mono s2 I).mono J z) g1]
      obtain ⟨O, Z⟩ := B.aaH (us := vs.set j (.int n)) ok g3
      exact ⟨x, vs, k, j, rfl, rfl, B.wH ok g3, g5, _, p3, F3, O, Z, s1.trans (s2.trans J), q⟩⟩⟩⟩
def Mu (g:Int->Int->Int) (B D I:Hp->TQ):lH:=λE W p=>B W p λJ p1=>D W p1 λO p2=>∃x vs k n,lk p2 J=.atom (.ref x)/\W x=some (.lst vs)/\lk p2 O=.int k/\0<=k/\vs[k.toNat]? = some (.int n)/\I W p2 λev z=>∃m,lk z ev=.int m/\E.nx (upd W x (.lst (vs.set k.toNat (.int (g n m))))) z
theorem qP {k:Int} (h0:0<=k) (h:k.toNat<n):Ab n k=some k.toNat:=by
 unfold Ab
 rw [zm h0,zm (by omega)]
theorem Mv (Z : Zv X op (ipI g)) (ho : ∀ W, cH C W → PE X o (Up (C.add W) (to W))) (hk : ∀ W, cH C W → PE X k (Up (C.add W) (tk W))) (he : ∀ W, cH C W → PE X e (Up (C.add W) (te W)))
    (ha : ∀ ov iv new, augStore k ov iv new = (do holding [new, ov, iv] (setItem ov iv new); release [new, ov, iv] []; pure .next) := by intros; rfl) :
    PS X (.AugAssign (.Subscript o k tpos) op e pos) (j6 C (Mu g to tk te)) :=
  VS.mk (Ql (pH ho) (pH hk) Il (pH he) Z set_list ha) λW p σ F H E rs ok D => ⟨W, ok, up1 rs D λe1 p1 v1 F1 H1 U s1 Li Im D =>
    ⟨W, ok, up1 U D λe2 p2 v2 F2 H2 B s2 J Aw I=>by
      obtain ⟨x, vs, k, n, g1, g2, g3, g4, g5, D⟩:=I
      rw [aY Aw g3, dw (Im.mono s2 J) g1]
      refine ⟨x, vs, k, .int n, rfl, rfl, B.wH ok g2, g4, g5, W, ok, up1 B D λe3 p3 v3 F3 H3 z s3 sh3 er3 I=>?_⟩
      obtain ⟨m, g6, q⟩:=I
      rw [aY er3 g6]
      obtain ⟨O, Y⟩ := z.aaH (us := vs.set k.toNat (.int (g n m))) ok g2
      exact ⟨n, m, rfl, rfl, x, vs, k, k.toNat, rfl, rfl, z.wH ok g2, qP g4 (zt.mp g5).1, _, p3, F3, O, Y, s1.trans (s2.trans s3), q⟩⟩⟩
end
section
variable {P:Program} {w:World} {K:PySem.W.Frag} {mg:Str->Option Value} {base:Heap}
theorem tZ.aaM {x O:Str} {st:Stmt} {f:Addr} {fd:FuncData} {N ps:List Str} {k:Nat} {S:Cu} (Fn:tZ K x O st f fd) (Sc:au N ps (aa st)) (len:∀W ds R,S W ds R->ds.length=ps.length)
  (hbody:∀(U:Value) (A:Around) (outer:List Env) (s:Shared) (H:Hp) (E:XK) (C:Pc) (W:Hp) (ds:List D) (R:D->Hp->Prop),C.bs=[]->K=C.K->bR k (A.deeper (envOfC O (aa st) s.heap.objs.size f U))->S W ds R->
   ∃t,gO (fK m8 P w K mg base N O (aa st) f U A outer s H E).Tp (dR st) (j6 C t)/\t { nx:=λW' _=>R .non W',rt:=λr W' _=>∃d,r=.rd d/\R d W' } W (bU N (ds.map Sl.d))):bY P w K mg base m8 (k+1) f fd ps (Jk K S):=by
 refine Fn.ok Sc (λvs H Q E h=>?_) (λU A outer s H vs Q E hr h=>?_)
 ·obtain ⟨W,ds,F,R,h1,h2,h3,h4,h5⟩:=h
  rw [<-h3.length];exact len W ds R h4
 obtain ⟨W,ds,F,R,sFH,hW,rl,hS,hq⟩:=h
 let C:Pc:=⟨K,F,λa=>match W a with|some _=>none|none=>H a,[]⟩
 have hC:∀a,C.H0 a=(match W a with|some _=>none|none=>H a):=λa=>rfl
 have hb:=hbody U A outer s H E C W ds R rfl rfl hr hS
 obtain ⟨t,ht,tq⟩:=hb
 have ok:cH C W:=⟨λa o e=>(hW a o e).2.2,λa o e=>by rw [hC,e],λa o e=>(hW a o e).2.1,λa o e q hq=>nomatch hq⟩
 have h0:∀a,(C.add W).H0 a=H a:=λa=>by
  cases e:W a with
  | none=>rw [h_ e,hC,e]
  | some o=>rw [gr e,(hW a o e).1]
 have Z:∀(i:Nat) (s:Sl),(bU N (ds.map Sl.d))[i]? = some (some s)->∃d,s=.d d/\ds[i]? = some d:=λi s h=>by
  unfold bU at h
  by_cases hi:i<ds.length
  ·rw [zP (by simpa using hi)] at h
   rw [zO,zO] at h
   cases e:ds[i]? with
   | none=>rw [e] at h;cases h
   | some d=>rw [e] at h;cases h;exact ⟨d,rfl,rfl⟩
  ·rw [zZ (by simpa using xF hi),zU] at h
   split at h<;>cases h
 have aeq:∀(i:Nat) (v:V),vs[i]? = some v->(start N vs)[i]? = some (some v):=λi v h=>by
  unfold start
  have hi:=(zt.mp h).1
  rw [zP (by simpa using hi)]
  simpa using h
 have rs:RS (C.add W) (bU N (ds.map Sl.d)) (start N vs) F H:=by
  refine ⟨sFH,.refl _,λa o h=>.inl h,λa o h _=>by rw [h0] at h;exact h,λa h=>by rw [h0] at h;exact h,?_,λi s h=>?_,λi j s s' a hij e1 m1 e2 m2 x1 x2=>?_,λq hq=>nomatch hq⟩
  ·unfold bU start
   rw [zj,zj,zd,zd,zd,zE,zE,rl.length]
  ·obtain ⟨d,rfl,h1⟩:=Z i s h
   obtain ⟨v,h2,h3⟩:=rl.get h1
   exact ⟨v,aeq i v h2,h3⟩
  ·obtain ⟨d,rfl,_⟩:=Z i s e1
   cases m1
 have fin:∀(d:D) (Y:Hp) (p1:aQ) (J:St) (v:V) (F1 H1:Hp),RS (C.add Y) p1 J F1 H1->cH C Y->Rep K F1 d v->R d Y->Q v H1:=λd Y p1 J v F1 H1 I B rr q=>by
  have rs2:=I.un B
  refine hq d v Y F1 H1 ⟨rs2.ext,rs2.sub,λa o e=>?_,λa o e n=>rs2.keep a o (by rw [hC,n];exact e) (λq hq=>nomatch hq),λa o e=>⟨I.wH B e,I.wF B e,B.lst a o e,?_⟩,rr⟩ q
  ·cases e2:W a with
   | some u=>exact .inr (.inr (.inl (by intro z;cases z)))
   | none=>
    rcases I.new a o e with z|z|z
    ·exact .inl z
    ·obtain ⟨z1,z2⟩:=gH z
     rw [hC,e2] at z2
     exact .inr (.inl z2)
    ·exact .inr (.inr (.inr z))
  ·have:=B.h0 a o e
   rw [hC] at this
   cases e2:W a with
   | none=>rw [e2] at this;exact .inr this
   | some u=>exact .inl (by intro z;cases z)
 refine ⟨_,ht,W,bU N (ds.map Sl.d),F,_,rs,ok,tq,⟨λJ H1 zq=>?_,λv H1 zq=>?_,λ_ _ ⟨_,_,_,_,_,_,z⟩=>z.elim,λ_ _ ⟨_,_,_,_,_,_,z⟩=>z.elim⟩⟩
 ·obtain ⟨Y,p1,F1,I,B,s1,q⟩:=zq
  exact fin .non Y p1 J .non F1 H1 I B .non q
 ·obtain ⟨r,Y,p1,J,F1,I,B,s1,rr,d,hr,q⟩:=zq
  subst hr
  exact fin d Y p1 J v F1 H1 I B rr q
theorem tZ.Uc {x n:Str} {st:Stmt} {f:Addr} {fd:FuncData} {N ps:List Str} {k:Nat} {S:Cu} (J:tZ K x n st f fd) (I:au N ps (aa st)) (len:∀W ds R,S W ds R->ds.length=ps.length)
  (B:∀(z:Value) (A:Around) (outer:List Env) (s:Shared) (H:Hp) (E:XK) (C:Pc) (W:Hp) (ds:List D) (R:D->Hp->Prop),K=C.K->bR k (A.deeper (envOfC n (aa st) s.heap.objs.size f z))->S W ds R->
   ∃t,gO (fK m8 P w K mg base N n (aa st) f z A outer s H E).Tp (dR st) (j6 C t)/\t { nx:=λW' _=>R .non W',rt:=λr W' _=>∃d,r=.rd d/\R d W' } W (bU N (ds.map Sl.d))):bY P w K mg base m8 (k+1) f fd ps (Jk K S):=J.aaM I len λz A outer s H E C W ds R _=>B z A outer s H E C W ds R
end
structure uK (W:Hp) (bs:List Addr) (ms:List (List Int)):Prop where
 len:bs.length=ms.length
 nd:bs.Nodup
 at_:∀(i:Nat) (b:Addr) (ns:List Int),bs[i]? = some b->ms[i]? = some ns->W b=some (.lst (ns.map V.int))
def Jl (W:Hp) (a:Addr) (n:List (List Int)):Prop:=∃bs,W a=some (.lst (bs.map V.ref))/\a ∉ bs/\uK W bs n
def RB (W n:Hp):Prop:=∀b o,W b=some o->n b=some o
def Ud (C:Pc) (k:Nat) (t:TN):TE:=λσ H Q=>∃W,cH C W/\nj ((C.add W).sh k) t σ H Q
def Ue (C:Pc) (k:Nat) (t:m9):TT:=λσ H Q=>∃W,cH C W/\gB ((C.add W).sh k) t σ H Q
def Ug (C:Pc) (k:Nat) (g:rZ):TG:=λv σ H Q=>∃W,cH C W/\pG ((C.add W).sh k) k g v σ H Q
def Mw (k:Nat) (ti:Hp->t6) (g:rZ) (J:m9) (O:TN):Hp->aQ->(Addr->Hp->aQ->Prop)->Prop:=λW p R=>ti W p λn item p1=>∃I:Nat->List (List Int)->aQ->Prop,I 0 [] (List.replicate k none++p1)/\n<=100000 /\
 (∀i ys p2,i<n->I i ys p2->ys.length<=i/\g (item i) p2 λY=>J Y λb B=>if b=true then O B λr U=>∃ns:List Int,r=.ro (ns.map D.int)/\I (i+1) (ys++[ns]) U else I (i+1) ys B) /\
 ∀ys p2,I n ys p2->∀x z,Jl z x ys->RB W z->R x z (p2.drop k)
section
variable {X:Cx} {C:Pc} {W:Hp} {p:aQ} {σ:St} {F H:Hp} {k:Nat} {pos:Pos}
theorem cH.sh (ok:cH C W):cH (C.sh k) W:=⟨ok.lst,ok.h0,ok.f0,λa o e q B=>by
 obtain ⟨q',n,z⟩:=yb.mp B
 rw [<-z];exact ok.bs a o e q' n⟩
theorem cH.aes (ok:cH (C.sh k) W):cH C W:=⟨ok.lst,ok.h0,ok.f0,λa o e q n=>ok.bs a o e (q.1+k,q.2) (yb.mpr ⟨q,n,rfl⟩)⟩
theorem uK.nil:uK W [] []:=⟨rfl,x9,λi b ns h=>by simp at h⟩
theorem uK.mem {bs:List Addr} {n:List (List Int)} {b:Addr} (r:uK W bs n) (h:b∈bs):∃ns,W b=some (.lst (List.map V.int ns)):=by
 obtain ⟨i,hi,e⟩:=xv h
 have h1:bs[i]? = some b:=by rw [zg hi,e]
 obtain ⟨ns,h2⟩:∃ns,n[i]? = some ns:=by
  have z:i<n.length:=by rw [<-r.len];exact hi
  exact ⟨_,zg z⟩
 exact ⟨ns,r.at_ i b ns h1 h2⟩
theorem uK.snoc {bs:List Addr} {D:List (List Int)} {ns:List Int} (r:uK W bs D) (h:W a=none):uK (upd W a (.lst (ns.map V.int))) (bs++[a]) (D++[ns]):=by
 have B:a ∉ bs:=λz=>by
  obtain ⟨ns,e⟩:=r.mem z
  rw [e] at h;cases h
 refine ⟨by rw [zj,zj,r.len];rfl,List.nodup_append.mpr ⟨r.nd,by simp,λx J y I=>?_⟩,λi b n h1 h2=>?_⟩
 ·rw [zA] at I;subst I
  exact λz=>B (z▸J)
 ·by_cases hi:i<bs.length
  ·rw [zP hi] at h1
   rw [zP (by rw [<-r.len];exact hi)] at h2
   have O:b≠a:=λz=>B (z▸yE h1)
   rw [az O];exact r.at_ i b n h1 h2
  ·rw [zZ (by omega)] at h1
   rw [zZ (by rw [<-r.len];omega)] at h2
   have e:i - bs.length=0:=by
    have:=(zt.mp h1).1
    simpa using this
   rw [<-r.len,e] at h2
   rw [e] at h1
   simp at h1 h2
   subst h1 h2
   exact aJ
theorem uK.more {bs:List Addr} (r:uK W bs ms) (h:a ∉ bs):uK (upd W a o) bs ms:=⟨r.len,r.nd,λi b ns h1 h2=>by
 have n:b≠a:=λz=>h (by rw [<-z];exact yE h1)
 rw [az n];exact r.at_ i b ns h1 h2⟩
theorem Io (rs:RS (C.add W) p σ F H) (ok:cH C W) (ht:Mw k ti g tt te W p R)
  (hq:∀x W1 p1 F1 H1,RS (C.add W1) p1 σ F1 H1->cH C W1->aX F F1->R x W1 p1->Q (.ref x) H1) :
  Ag k (aaI C ti) (Ug C k g) (Ue C k tt) (Ud C k te) σ H Q:=
 ⟨W,ok,p,F,_,rs,ht,λJ H1 zq=>by
  obtain ⟨n,item,p1,F1,Ga,s1,Li,jq,I,i0,hn,istep,DG⟩:=zq
  have lp:p1.length=σ.length:=Ga.len
  refine ⟨λi m ys σ2 H2=>m=n - i/\i<=n/\∃O p2 F2 bs ms,RS ((C.add O).sh k) p2 σ2 F2 H2/\cH C O/\aX F1 F2/\lG (List.replicate k none++p1) p2/\σ2.drop k=σ/\ys=bs.map V.ref/\uK O bs ms/\RB W O/\I i ms p2,⟨n,by simp,ye _,W,_,F1,[],[],Ga.shift,ok,.refl _,.refl _,by simp,rfl,.nil,λ_ _ h=>h,i0⟩,?_⟩
  rintro i m ys σ2 H2 ⟨rfl,hi,O,p2,F2,bs,ms,D,B,s2,Qa,d2,rfl,U,Y,i2⟩
  have hkp:k<=p2.length:=by
   have:=Qa.1
   rw [zj,zE] at this
   omega
  by_cases Z:i<n
  ·obtain ⟨hl,st⟩:=istep i ms p2 Z i2
   refine .inr ⟨jq.go i F2 H2 D.sub s2 Z,?_,λys' σ' H'=>∃W' p' F' bs' ms',RS ((C.add W').sh k) p' σ' F' H'/\cH C W'/\aX F1 F'/\lG (List.replicate k none++p1) p'/\σ'.drop k=σ/\ys'=bs'.map V.ref/\uK W' bs' ms'/\RB W W'/\I (i+1) ms' p',λ_ _ _ h=>⟨n - (i+1),by omega,rfl,Z,h⟩,λx H' y=>?_⟩
   ·rw [zd,U.len];exact Nat.lt_of_le_of_lt hl (zI (zI Z hn) (by decide))
   obtain ⟨F3,Jj,s3,r3⟩:=JQ.out (C:=(C.add O).sh k) jq D s2 Z y
   refine ⟨O,B,p2,F3,item i,_,Jj,r3,st,λσ4 H4 zq=>?_⟩
   obtain ⟨p4,F4,Rj,s4,sh4,d4,q4⟩:=zq
   refine ⟨O,B,qj Rj q4 λb p5 F5 H5 rs5 s5 sh5 q5=>?_⟩
   have s15:aX F1 F5:=s2.trans (s3.trans (s4.trans s5))
   refine d7 (λq5=>?_) (λq5=>?_) q5
   ·refine ⟨O,B,Q8 rs5 q5 λr6 p6 v6 F6 H6 rs6 s6 sh6 er6 zq=>?_⟩
    obtain ⟨ns,hz,q6⟩:=zq
    subst hz
    obtain ⟨z,vs,rfl,y1,y2,y3,y4,y5⟩:=er6
    rw [y4.ints] at y3
    obtain ⟨rs7,ok7⟩:=RS.take (C:=C.sh k) (W:=O) rs6 B.sh y1 y2 y3 y5
    have w0:O z=none:=(gH (C:=C.sh k) y2).1
    refine ⟨_,p6,F6,bs++[z],ms++[ns],rs7,ok7.aes,s15.trans s6,Qa.trans (sh4.trans (sh5.trans sh6)),d4.trans d2,by rw [yf];rfl,U.snoc w0,λb o e=>?_,q6⟩
    have hb:b≠z:=λe'=>by have:=Y _ _ e;rw [e',w0] at this;cases this
    rw [az hb];exact Y b o e
   ·exact ⟨O,p5,F5,bs,ms,rs5,B,s15,Qa.trans (sh4.trans sh5),d4.trans d2,rfl,U,Y,q5⟩
  ·have e:i=n:=by omega
   subst e
   refine .inl ⟨jq.stop F2 H2 D.sub s2,λA hA=>?_⟩
   have Jj:=(D.laid (o:=.lst (bs.map V.ref)) hA).qM hkp
   rw [d2] at Jj
   obtain ⟨f1,f2,f3⟩:=(D.qM hkp).free hA
   rw [d2] at f3
   obtain ⟨Rj,ok4⟩:=Jj.take B f1 f2 aJ f3
   have nA:∀b o,O b=some o->b≠A:=λb o e z=>by
    have:=D.wH (C:=C.sh k) B.sh e
    rw [z,hA] at this;cases this
   have ni:A ∉ bs:=λz=>by
    obtain ⟨ns,e⟩:=U.mem z
    exact nA A _ e rfl
   exact hq A _ _ F2 _ Rj ok4 (s1.trans s2) (DG ms p2 i2 A _ ⟨bs,aJ,ni,U.more ni⟩ λb o e=>by rw [az (nA b o (Y b o e))];exact Y b o e)⟩
def aet (i:Nat) (t:Hp->aQ->(Addr->Hp->aQ->Prop)->Prop):lH:=λE W p=>t W p λx n p1=>ql p1 i=true/\E.nx n (p1.set i (some (.d (.atom (.ref x)))))
theorem aaN {X:Cx} (h:∀W,cH C W->PG X tg (pG ((C.add W).sh k) k g)):PG X tg (Ug C k g):=λpins s σ H v u Q I r n=>by obtain ⟨W,ok,z⟩:=n;exact h W ok pins s σ H v u Q I r z
theorem aaO {X:Cx} (h:∀W,cH C W->xK X ifs (gB ((C.add W).sh k) t)):xK X ifs (Ue C k t):=λpins s σ H Q I n=>by obtain ⟨W,ok,z⟩:=n;exact h W ok pins s σ H Q I z
theorem aaP {X:Cx} (h:∀W,cH C W->PE X e (nj ((C.add W).sh k) t)):PE X e (Ud C k t):=λpins s σ H Q I n=>by obtain ⟨W,ok,z⟩:=n;exact h W ok pins s σ H Q I z
theorem Mx {n:Pos} (hN:X.N.Nodup) (J:X.N[i]? = some x) (Y:Loc X.env.scope x) (S:a_ X scope N k) (hc:X.calm=true) (hi:∀W,cH C W->PI X tg iter (uH (C.add W) (ti W)))
  (hg:∀W,cH C W->∀Z s H fp,PG (bF X scope N Z s H fp) tg (pG ((C.add W).sh k) k g)) (D:∀W,cH C W->∀Z s H fp,xK (bF X scope N Z s H fp) ifs (gB ((C.add W).sh k) tt)) (he:∀W,cH C W->∀Z s H fp,PE (bF X scope N Z s H fp) elt (nj ((C.add W).sh k) te))
  (I:swapsWith (.ListComp elt [⟨tg,iter,ifs,0⟩] scope pos2) (some (.Name x n)) pos.line X.env=pure true:=by rfl)
  (hs:∀x,foldedSetIterable iter X.env x=pure x:=by intro _;rfl) (hf:X.fn x=true\/X.env.scope.names.lookup x=some .local:=by first|exact .inl rfl|exact .inr rfl|assumption) :
  PS X (.Assign [.Name x n] (.ListComp elt [⟨tg,iter,ifs,0⟩] scope pos2) pos) (j6 C (aet i (Mw k ti g tt te))):=
 VS.mk (Di hN J Y S hc (aaL hi) (λZ s H fp=>aaN λW ok=>hg W ok Z s H fp) (λZ s H fp=>aaO λW ok=>D W ok Z s H fp) (λZ s H fp=>aaP λW ok=>he W ok Z s H fp) I hs hf) λW p σ F H E U ok D=>Io U ok D λx W1 p1 F1 H1 z B O ⟨hn,q⟩=>
  ⟨W1,_,F1,z.Ay hn (.atom _),B,O,q⟩
end
def pI (i:Int) (n:Nat):List Int:=(List.range n).map λ(k:Nat)=>i+(k:Int)
theorem jh (i:Int) (n:Nat):(pI i n).length=n:=by unfold pI;rw [zd,List.length_range]
theorem Bk (i:Int) (n k:Nat) (h:k<n):(pI i n)[k]? = some (i+(k:Int)):=by unfold pI;rw [zO,List.getElem?_range h];rfl
section
variable {X:Cx} {C:Pc} {a b c e o k:Expr} {cR:TAQ} {pos ps ps2:Pos} {K:PySem.W.Frag} {F:Hp} {es:List Expr}
theorem RC (ns:List Int):∀(us:List Value),us.length=ns.length->(∀(j:Nat) v (n:Int),us[j]? = some v->ns[j]? = some n->∃t,v=Value.int n t)->Vals (ns.map V.int) us:=by
 induction ns with
 | nil=>intro us h _;cases us with|nil=>exact .nil|cons u r=>cases h
 | cons n ns ih=>
  intro us h z
  cases us with
  | nil=>cases h
  | cons u us=>
   obtain ⟨t,e⟩:=z 0 u n rfl rfl
   exact .cons ⟨t,e⟩ (ih us (by simpa using h) λj v m h1 h2=>z (j+1) v m (by simpa using h1) (by simpa using h2))
def Ip (n:TA):TE:=λσ H Q=>n σ H λvs H1=>∃i j:Int,vs=[.int i,.int j]/\-(2 ^ 62)<=i/\i<2 ^ 62/\-(2 ^ 62)<=j/\j<2 ^ 62/\(j - i).toNat<=100000/\∀l,H1 l=none->Q (.ref l) (upd H1 l (.lst ((pI i (j - i).toNat).map V.int)))
theorem Bl (hc:X.calm=true) (hg:Gl X "list") (hm:X.mg "list"=none) (hg2:Gl X "range") (U:X.mg "range"=none) (ha:PA X [a,b] ta) (hs:starEach [a,b] X.env=[(false,eval a X.env),(false,eval b X.env)]:=by rfl) (D:starEach [b] X.env=[(false,eval b X.env)]:=by rfl) :
  PE X (.Call (.Name "list" p1) [.Call (.Name "range" p2) [a,b] [] pos2] [] pos) (Ip ta):=by
 intro pins s σ H Q I h
 refine Call_ (gD (u:=.type "list") I hg hm (by kernel_rfl) (zX ?_ rfl rfl))
 refine Calls.spliced_cons ?_
 refine Call_ (gD I hg2 U boot_range (zX (bu (ha pos2 pins s σ H _ I h) λus J zq=>?_) (by rw [hs,D]) (by rw [D];rfl)))
 obtain ⟨vs,H1,I1,r1,q1⟩:=zq
 obtain ⟨i,j,e,i0,i1,j0,j1,hz,q⟩:=q1
 subst e
 cases r1 with
 | cons r rr=>
  cases rr with
  | cons r' rr=>
   cases rr
   obtain ⟨t,rfl⟩:=r
   obtain ⟨t',rfl⟩:=r'
   refine call_range_2 ?_
   refine Calls.spliced_nil ?_
   have I2:Inv X pins σ H1 { J with heap:=J.heap.push { cls:=.type "range",data:=.fields #[.int i t,.int j t',.int 1 J.toks] },toks:=J.toks+1 }:=I1.kept λb o e=>zu _ e
   refine call_list_range (n:=(j - i).toNat) (I2.ok.hd hc) (IsRange.new ..) (small_one i0 i1 j0 j1) (by rw [rangeSize_one];split<;>omega) (by omega) λh' tk z c' kp e B=>?_
   obtain ⟨O,Z⟩:=B
   have hl:z.toList.length=(j - i).toNat:=by rw [xu,O]
   have rv:Vals ((pI i (j - i).toNat).map V.int) z.toList:=by
    refine RC _ _ (by rw [hl,jh]) λk v n hk hn=>?_
    have Y:k<(j - i).toNat:=by rw [<-hl];exact (zt.mp hk).1
    rw [Bk i _ k Y] at hn
    cases hn
    obtain ⟨t,e⟩:=Z k v (by rw [<-Array.getElem?_toList];exact hk)
    exact ⟨t,by rw [e];congr 1;omega⟩
   exact ⟨.ref _,_,I2.laid (t':=tk) kp (zx _) (show bN X.prog X.w _ h' _ (.lst _) from ⟨by rw [zd,jh,xn];omega,z.toList,c',rv,by rw [Array.toArray_toList];exact e⟩),rfl,q _ (I2.hok.fresh (zx _))⟩
def pJ (n:TAQ):TN:=λp Q=>n p λes p1=>∃e f i j,es=[e,f]/\lk p1 e=.int i/\lk p1 f=.int j/\(-(2 ^ 62)<=i/\i<2 ^ 62/\-(2 ^ 62)<=j/\j<2 ^ 62)/\(j - i).toNat<=100000/\Q (.ro ((pI i (j - i).toNat).map D.int)) p1
theorem D_ (hc:X.calm=true) (hg:Gl X "list") (hm:X.mg "list"=none) (D:Gl X "range") (B:X.mg "range"=none) (ha:PA X [a,b] (iz C cR)) (hs:starEach [a,b] X.env=[(false,eval a X.env),(false,eval b X.env)]:=by rfl) (z:starEach [b] X.env=[(false,eval b X.env)]:=by rfl):PE X (.Call (.Name "list" p1) [.Call (.Name "range" p2) [a,b] [] pos2] [] pos) (nj C (pJ cR)):=
 QN.mk (Bl hc hg hm D B ha hs z) λp σ F H R Z ht=>eY Z ht λes1 p1 U F1 H1 n Y sh I O=>by
  obtain ⟨e1,e2,i,j,h1,h2,h3,⟨h4,h5,h6,h7⟩,h8,q⟩:=O
  obtain ⟨v,w,rfl,er,J⟩:=Dw I h1
  exact ⟨i,j,by rw [aY er h2,aY J h3],h4,h5,h6,h7,h8,λl hl=>iD n Y sh hl (aW.qJ _) q⟩
end
theorem XM (n:Int):vd (.int n)=.int n:=rfl
theorem XR (x:Addr):vd (.ref x)=.atom (.ref x):=rfl
theorem aF (h:∀k:Hp->aQ->Prop,(∀W' p',R E W' p'->k W' p')->t { E with nx:=k } W p):uh t R E W p:=h (R E) (λ_ _ h=>h)
theorem sV (h:t { E with nx:=R E } W p):uh t R E W p:=h
theorem jx {E:jG} {item:Nat->D} (z:∀Q:Nat->(Nat->D)->aQ->Prop,Q n item p1->ti W p Q) (I:Nat->Hp->aQ->Prop) (h0:I 0 W p1)
  (B:∀i W2 p2,i<n->I i W2 p2->g W2 (item i) p2 λp3=>tb { E with nx:=I (i+1),ct:=I (i+1),bk:=E.nx } W2 p3) (hd:∀W2 p2,I n W2 p2->E.nx W2 p2):Ry ti g tb E W p:=z _ ⟨I,h0,B,hd⟩
theorem Mz (h:ti W p λn item p1=>Ry (λ_ _ Q=>Q n item p1) g tb E W p1):Ry ti g tb E W p:=h
theorem MF {E:jG} (I:Hp->aQ->Prop) (n:aQ->Nat) (h0:I W p)
  (z:∀W1 p1,I W1 p1->c W1 p1 λb p2=>if b=true then tb { E with nx:=λW q=>I W q/\n q<n p1,ct:=λW q=>I W q/\n q<n p1,bk:=E.nx } W1 p2 else E.nx W1 p2):Mj c tb E W p:=⟨I,n,h0,z⟩
theorem RD {k:Nat} {item:Nat->D} (z:∀Q:Nat->(Nat->D)->aQ->Prop,Q n item p1->ti W p Q) (J:n<=100000) (I:Nat->List (List Int)->aQ->Prop) (h0:I 0 [] (List.replicate k none++p1))
  (O:∀i ys p2,I i ys p2->ys.length<=i)
  (B:∀i ys p2,i<n->I i ys p2->g (item i) p2 λp3=>tt p3 λb p4=>if b=true then te p4 λr p5=>∃ns:List Int,r=.ro (ns.map D.int)/\I (i+1) (ys++[ns]) p5 else I (i+1) ys p4)
  (hd:∀ys p2,I n ys p2->∀x W1,Jl W1 x ys->RB W W1->R x W1 (p2.drop k)):Mw k ti g tt te W p R:=
 z _ ⟨I,h0,J,λi ys p2 hi h=>⟨O i ys p2 h,B i ys p2 hi h⟩,hd⟩
theorem MJ {α:Type}:∀{l:List α} {i j:Nat},l.Nodup->(h1:i<l.length)->(h2:j<l.length)->l[i]=l[j]->i=j
 | [],i,j,_,h1,_,_=>absurd h1 (Nat.not_lt_zero _)
 | x::l,0,0,_,_,_,_=>rfl
 | x::l,0,j+1,nd,h1,h2,e=>by
  rw [yq] at nd
  simp at e h2
  exact absurd (e▸yh h2) nd.1
 | x::l,i+1,0,nd,h1,h2,e=>by
  rw [yq] at nd
  simp at e h1
  exact absurd (e▸yh h1) nd.1
 | x::l,i+1,j+1,nd,h1,h2,e=>by
  rw [yq] at nd
  simp at e h1 h2
  rw [MJ nd.2 h1 h2 e]
section
variable {W:Hp} {bs:List Addr} {ms:List (List Int)} {a b:Addr}
theorem uK.wr {ns:List Int} (r:uK W bs ms) (D:bs[i]? = some b):uK (upd W b (.lst (ns.map V.int))) bs (ms.set i ns):=by
 refine ⟨by rw [yc];exact r.len,r.nd,λj c n h1 h2=>?_⟩
 by_cases B:j=i
 ·subst B
  rw [D] at h1;cases h1
  have O:j<ms.length:=by rw [<-r.len];exact (zt.mp D).1
  rw [zM O] at h2;cases h2
  exact aJ
 ·rw [zy (Ne.symm B)] at h2
  have U:c≠b:=λz=>by
   subst z
   obtain ⟨J,e1⟩:=zt.mp h1
   obtain ⟨I,e2⟩:=zt.mp D
   exact B (MJ r.nd J I (e1.trans e2.symm))
  rw [az U];exact r.at_ j c n h1 h2
theorem fu {i:Int} (h0:0<=i) (n:bs[i.toNat]? = some b):iy (bs.map V.ref) i=some (.ref b):=by
 obtain ⟨l,e⟩:=zt.mp n
 unfold iy
 rw [zd,qP h0 l]
 show (bs.map V.ref)[i.toNat]? = _
 rw [zO,n];rfl
theorem ji {ns:List Int} {i:Int} (h0:0<=i) (h:ns[i.toNat]? = some n):iy (ns.map V.int) i=some (.int n):=by
 obtain ⟨l,e⟩:=zt.mp h
 unfold iy
 rw [zd,qP h0 l]
 show (ns.map V.int)[i.toNat]? = _
 rw [zO,h];rfl
end
theorem sW (r:Addr) (a b c:Int) (t u v:Tok) (n:¬(!(Builtin.Range.rangeFitsLong a && Builtin.Range.rangeFitsLong b && Builtin.Range.rangeFitsLong c && Builtin.Range.rangeFitsLong (-c) && Builtin.Range.rangeFitsLong (a - c) && Builtin.Range.rangeFitsLong (Builtin.Range.rangeSize a b c)))=true) :
  Meets (Builtin.«range.__reversed__» ⟨[.ref r],[]⟩) (λ_ R s=>s.heap.get? r=some { cls:=.type "range",dict:=none,data:=.fields #[.int a t,.int b u,.int c v],slots:=#[] }/\R (.ok (.ret (Value.ref s.heap.objs.size))) { s with heap:=s.heap.push { cls:=Value.type (if (Builtin.Range.rangeFitsLong a && Builtin.Range.rangeFitsLong b && Builtin.Range.rangeFitsLong c && Builtin.Range.rangeFitsLong (-c) && Builtin.Range.rangeFitsLong (a - c) && Builtin.Range.rangeFitsLong (Builtin.Range.rangeSize a b c))=true then "range_iterator" else "longrange_iterator"),data:=.fields #[rawInt (a+(Builtin.Range.rangeSize a b c - 1) * c),rawInt (Builtin.Range.rangeSize a b c),rawInt (-c)] } }):=
 .of_wp λprog w A R s h=>by obtain ⟨z,g,d,tk,os⟩:=s;obtain ⟨B,h⟩:=h;wp_walk;exact ⟨_,rfl,h⟩
def Gj (lo:Int) (n:Nat):Obj:={ cls:=.type "range_iterator",data:=.fields #[rawInt (lo+(n:Int) - 1),rawInt (n:Int),rawInt (-1)] }
theorem qp:isSubtype (.type "range_iterator") (.type "reversed")=pure false:=by rw [isSubtype_type];kernel_rfl
section
variable {prog:Program} {w:World} {A:Around} {E:Value->Shared->Prop} {s:Shared}
theorem sX {r:Addr} {lo hi:Int} {t u v:Tok} {Q:Value->Shared->Prop} (n:IsRange s.heap r lo hi 1 t u v) (J:-(2 ^ 62)<=lo) (I:lo<2 ^ 62) (D:-(2 ^ 62)<=hi) (B:hi<2 ^ 62)
  (h:Q (.ref s.heap.objs.size) { s with heap:=s.heap.push (Gj lo (hi - lo).toNat) }):wpAny (model prog w) A (call (.builtin "range.__reversed__") [.ref r]) Q E s:=by
 have hT:s.TypeIs (.ref r) "range":=⟨_,n,rfl⟩
 have z:Builtin.Range.rangeSize lo hi 1=((hi - lo).toNat:Int):=by rw [rangeSize_one];split<;>omega
 have sm:(Builtin.Range.rangeFitsLong lo && Builtin.Range.rangeFitsLong hi && Builtin.Range.rangeFitsLong 1 && Builtin.Range.rangeFitsLong (-1) && Builtin.Range.rangeFitsLong (lo - 1) && Builtin.Range.rangeFitsLong (Builtin.Range.rangeSize lo hi 1))=true:=by
  rw [z]
  simp only [Builtin.Range.rangeFitsLong,yo,yl]
  omega
 refine xa F.slot_range_reversed hT F.entry_range_reversed (F.args_range_reversed_1 _) (sW r lo hi 1 t u v (by rw [sm];decide)) ⟨n,?_⟩
 rw [zm sm,z]
 have e:lo+(((hi - lo).toNat:Int) - 1) * 1=lo+((hi - lo).toNat:Int) - 1:=by omega
 rw [e]
 exact h
theorem mJ {r : Addr} {lo hi : Int} {t u v : Tok} {Q₁ : Value → Shared → Prop} (n : IsRange s.heap r lo hi 1 t u v) (I : -(2 ^ 62) ≤ lo) (D : lo < 2 ^ 62) (B : -(2 ^ 62) ≤ hi) (z : hi < 2 ^ 62)
    (h : Q₁ (.ref s.heap.objs.size) { s with heap := s.heap.push (Gj lo (hi - lo).toNat) }) :
    codeAny (model prog w) A (.call (.builtin "reversed.__new__") ⟨[.type "reversed", .ref r], []⟩) (wants Q₁ E) s := by
  have hT : s.TypeIs (.ref r) "range" := ⟨_, n, rfl⟩
  refine codeAny_of_tree ?_
  show wpAny _ A.in1 (do checkBuiltinCall "reversed.__new__" ⟨[.type "reversed", .ref r], []⟩; again (.builtin "reversed.__new__" ⟨[.type "reversed", .ref r], []⟩)) _ _ s
  refine zh (wpAny_of_eq (F.newCall_reversed_1 _) (zC ⟨plainId_quiet F.plain_reversed_new _, codeAny_builtin F.entry_reversed_new ?_⟩))
  rw [Around.under_plainId F.plain_reversed_new _]
  unfold Builtin.«reversed.__new__»
  refine zh (wpAny_of_eq (newClass_reversed _) ?_)
  try dsimp only
  refine zh (wpAny_of_eq (a := ()) (by first | rfl | kernel_rfl) ?_)
  refine zh (wpAny_of_eq (a := ()) (by first | rfl | kernel_rfl) ?_)
  try dsimp only
  refine zh (wpAny_specialOf hT F.slot_range_reversed.lookup ?_)
  try dsimp only
  refine zh (wpAny_of_eq (F.slot_range_reversed.bind _) ?_)
  try dsimp only
  first
  | rw [zi (show ¬ ((Value.builtin "range.__reversed__" == Value.none) = true) from ym)]
  | (show wpAny _ _ (if (Value.builtin "range.__reversed__" == Value.none) = true then _ else _) _ _ _; rw [zi (show ¬ ((Value.builtin "range.__reversed__" == Value.none) = true) from ym)])
  refine zh (wpAny_rule ?_)
  refine zh (m := runValue (.call (.builtin "range.__reversed__") ⟨[.ref r], []⟩)) (show wpAny _ _ (call (.builtin "range.__reversed__") [.ref r]) _ _ _ from sX n I D B z ?_)
  first
  | exact zC h
  | exact zh (zC (zC h))
theorem lJ {r:Addr} {lo hi:Int} {t u v:Tok} {Q:Value->Shared->Prop} (z:IsRange s.heap r lo hi 1 t u v) (J:-(2 ^ 62)<=lo) (I:lo<2 ^ 62) (D:-(2 ^ 62)<=hi) (B:hi<2 ^ 62)
  (h:Q (.ref s.heap.objs.size) { s with heap:=s.heap.push (Gj lo (hi - lo).toNat) }):wpAny (model prog w) A (call (.type "reversed") [.ref r]) Q E s:=by
 refine callType_other (U:="range_iterator") (Q₁:=λobj n=>obj=.ref s.heap.objs.size/\n={ s with heap:=s.heap.push (Gj lo (hi - lo).toNat) }) (by decide) F.create_reversed ⟨_,_,F.mro_reversed⟩ F.made_reversed qp (F.typeCall_reversed_1 _) (mJ z J I D B ⟨rfl,rfl⟩) ?_
 rintro obj n ⟨rfl,rfl⟩
 exact ⟨⟨_,zD _ rfl,rfl⟩,h⟩
end
section
variable {X:Cx} {C:Pc} {cR:TAQ} {K:PySem.W.Frag} {F:Hp}
def aaQ (n:TA):TI:=λσ H R=>n σ H λvs H1=>∃i j:Int,vs=[.int i,.int j]/\(-(2 ^ 62)<=i/\i<2 ^ 62/\-(2 ^ 62)<=j/\j<2 ^ 62)/\R (VB (i+((j - i).toNat:Int) - 1) (-1) (j - i).toNat) H1
theorem RG (hg:Gl X "reversed") (hm:X.mg "reversed"=none) (D:Gl X "range") (B:X.mg "range"=none) (ha:PA X [a,b] ta) (hs:starEach [a,b] X.env=[(false,eval a X.env),(false,eval b X.env)]:=by rfl) (n:starEach [b] X.env=[(false,eval b X.env)]:=by rfl) :
  PI X tg (.Call (.Name "reversed" p1) [.Call (.Name "range" p2) [a,b] [] pos2] [] pos) (aaQ ta):=by
 intro pins s σ H R I h
 refine Call_ (gD (u:=.type "reversed") I hg hm (by kernel_rfl) (zX ?_ rfl rfl))
 refine Calls.spliced_cons ?_
 refine Call_ (gD I D B boot_range (zX (bu (ha pos2 pins s σ H _ I h) λus z J=>?_) (by rw [hs,n]) (by rw [n];rfl)))
 obtain ⟨vs,H1,I1,U,q1⟩:=J
 obtain ⟨i,j,e,⟨i0,Z,j0,j1⟩,q⟩:=q1
 subst e
 cases U with
 | cons r rr=>
  cases rr with
  | cons r' rr=>
   cases rr
   obtain ⟨t,rfl⟩:=r
   obtain ⟨O,rfl⟩:=r'
   refine call_range_2 ?_
   refine Calls.spliced_nil ?_
   have I2:Inv X pins σ H1 { z with heap:=z.heap.push { cls:=.type "range",data:=.fields #[.int i t,.int j O,.int 1 z.toks] },toks:=z.toks+1 }:=I1.kept λb o e=>zu _ e
   refine lJ (IsRange.new ..) i0 Z j0 j1 ?_
   exact wpAny_pyIter_rangeiter (zD _ rfl) (Hq I2 (λY=>lW Y _ (-1) _) (rD (zD _ rfl)) q)
def XS (n:TAQ):t6:=λp Q=>n p λes p1=>∃e f i j,es=[e,f]/\lk p1 e=.int i/\lk p1 f=.int j/\(-(2 ^ 62)<=i/\i<2 ^ 62/\-(2 ^ 62)<=j/\j<2 ^ 62)/\Q (j - i).toNat (λk=>.int (i+((j - i).toNat:Int) - 1 - k)) p1
theorem XX (hg:Gl X "reversed") (hm:X.mg "reversed"=none) (D:Gl X "range") (B:X.mg "range"=none) (ha:PA X [a,b] (iz C cR)) (hs:starEach [a,b] X.env=[(false,eval a X.env),(false,eval b X.env)]:=by rfl) (z:starEach [b] X.env=[(false,eval b X.env)]:=by rfl):PI X tg (.Call (.Name "reversed" p1) [.Call (.Name "range" p2) [a,b] [] pos2] [] pos) (uH C (XS cR)):=
 QI.mk (RG hg hm D B ha hs z) λp σ F H R Z ht=>eY Z ht λes1 p1 U F1 H1 n Y sh I O=>by
  obtain ⟨e1,e2,i,j,h0,h1,h2,h3,q⟩:=O
  obtain ⟨v,w,rfl,er,J⟩:=Dw I h0
  exact ⟨i,j,by rw [aY er h1,aY J h2],h3,_,_,p1,F1,n,Y,sh,vN λ_=>by omega,q⟩
end
section
variable {X:Cx} {C:Pc} {st:Stmt} {rest:List Stmt} {t:lH} {XE:Addr->aQ->Prop} {W:Hp}
def MK (t:lH):lH:=λE W p=>t { E with nx:=λ_ _=>False } W p
theorem v_cut (O:PS X st (j6 C t)):gO X (st::rest) (j6 C (MK t)):=λpins s σ H Y I B=>by
 obtain ⟨W,p,F,E,D,ok,J,l⟩:=B
 refine wpAny_execs_cons (bu (O pins s σ H _ I ⟨W,p,F,{ E with nx:=λ_ _=>False },D,ok,J,Ends.Le.refl _⟩) λf U q=>?_)
 cases f with
 | next=>obtain ⟨_,_,_,_,_,_,_,_,_,z⟩:=q;exact z.elim
 | ret u=>obtain ⟨v,σ',H',n,r,q⟩:=q;exact ⟨v,σ',H',n,r,l.rt _ _ q⟩
 | brk=>obtain ⟨σ',H',n,q⟩:=q;exact ⟨σ',H',n,l.bk _ _ q⟩
 | cont=>obtain ⟨σ',H',n,q⟩:=q;exact ⟨σ',H',n,l.ct _ _ q⟩
theorem GX.un (ok:cH C W) {z:Addr} {n:St} {H:Hp} (h:GX (C.add W) XE z n H):GX C XE z n H:=let ⟨p,F,rs,q⟩:=h;⟨p,F,rs.un ok,q⟩
theorem vD.add (n:vD X (GX C XE)) (ok:cH C W):vD X (GX (C.add W) XE):=λpins σ H s s' a z args I m e h=>n pins σ H s s' a z args I m e (GX.un ok h)
end
def kOf:D->Option Key
 | .int i=>some (.inl i)
 | .str x=>some (.inr x)
 | _=>none
def aaR:List D->Option (List Key)
 | []=>some []
 | d::ds=>match kOf d,aaR ds with
  | some k,some ks=>some (k::ks)
  | _,_=>none
def MN:D->Option V
 | .int n=>some (.int n)
 | .str x=>some (.str x)
 | .non=>some .non
 | .bl b=>some (.bl b)
 | _=>none
section
variable {K:PySem.W.Frag} {F:Hp}
theorem RJ {k:Key} (r:Rep K F d v) (h:kOf d=some k):v=kV k:=by
 cases d<;>first|(cases h;cases r;rfl)|cases h
theorem MP (r:Rep K F d v) (h:MN d=some u):v=u:=by
 cases d<;>first|(cases h;cases r;rfl)|cases h
end
section
variable {X:Cx} {C:Pc} {a b c e o k:Expr} {es:List Expr} {pos:Pos} {K:PySem.W.Frag} {p:aQ} {σ:St} {F H:Hp} {st:Stmt} {t:lH}
theorem Gk (n:jL C.K p σ F e1 v) (h:MN (lk p e1)=some u):v=u:=by
 cases e1 with
 | fz x=>exact MP n h
 | ow i=>
  obtain ⟨⟨s,h1,m⟩,h2⟩:=n
  have z:lk p (.ow i)=s.val:=by show (match p[i]? with|some (some s)=>s.val|_=>.non)=_;rw [h1]
  rw [z] at h
  cases s<;>first|(cases m;done)|(cases h;done)
theorem MT {k:Key} (n:jL C.K p σ F e1 v) (h:kOf (lk p e1)=some k):v=kV k:=by
 cases e1 with
 | fz x=>exact RJ n h
 | ow i=>
  obtain ⟨⟨s,h1,m⟩,h2⟩:=n
  have z:lk p (.ow i)=s.val:=by show (match p[i]? with|some (some s)=>s.val|_=>.non)=_;rw [h1]
  rw [z] at h
  cases s<;>first|(cases m;done)|(cases h;done)
variable {cR:TAQ} {apos ps:Pos}
end
section
variable {X:Cx} {C:Pc} {K:PySem.W.Frag} {pos:Pos}
def aaS (K:PySem.W.Frag) (n:Nat) (t:Qk):TG:=λv σ H Q=>∃a xs,v=.ref a/\jr K H a xs/\xs.length=n/\t xs σ H Q
theorem RK {k:Nat} (hK:X.K=K) (hc:X.calm=true) (h:u9 X es t)
  (hn:(assignEach es X.env).length=n:=by rfl) (J:(assignEach es X.env).findIdx? (·.1)=none:=by rfl):PG X (.Tuple es k pos) (aaS K n t):=by
 subst hK
 intro pins s σ H v u Q I r B
 obtain ⟨a,xs,e1,Z,hl,B⟩:=B
 subst e1
 cases r
 obtain ⟨z,O,Y,hz⟩:=I.list Z
 have D:(assignEach es X.env).length=z.toArray.size:=by simp [hn,<-hl,O.length]
 rw [assign_Tuple]
 refine zh (xx ?_)
 unfold unpack
 rw [D,J]
 refine zh (ya (PySem.W.kun_itemsOf (I.ok.hd hc) Y.isList λh' U=>?_))
 have I1:Inv X pins σ H { s with heap:=h' }:=I.kept (t':=s.toks) λb o e=>U b o (zK (zF e)) e
 exact h pins _ σ H xs _ Q I1 (by simpa using O) B
def Ea (n:Nat) (z:ug):rZ:=λx p Q=>∃xs,x=.lst xs/\xs.length=n/\z xs p Q
theorem vX {k:Nat} {D:ug} (hK:X.K=C.K) (Z:X.calm=true) (h:u9 X es (Ig C D)) (U:(assignEach es X.env).length=n:=by rfl) (z:(assignEach es X.env).findIdx? (·.1)=none:=by rfl):PG X (.Tuple es k pos) (Ie C (Ea n D)):=
 QG.mk (RK hK Z h U z) λp σ F H x v R B J I=>by
  obtain ⟨xs,O,Y,q⟩:=I
  subst O
  cases J with
  | lst q1 r1=>exact ⟨_,_,rfl,.of (B.sub _ _ q1),by rw [<-r1.length];exact Y,p,F,xs,R,B,r1,q,λ_ _ h=>h⟩
end
section
variable {X:Cx} {C:Pc} {c e e1 e2:Expr} {pos ps apos:Pos} {W:Hp} {p:aQ} {σ:St} {F H:Hp} {st:Stmt} {t u:lH}
def vIf (n:Hp->m9) (t u:lH):lH:=λE W p=>n W p λb p1=>if b=true then t E W p1 else u E W p1
theorem aaT (J:∀W,cH C W->PT X c (gB (C.add W) (tc W))) (U:gO X a (j6 C t)) (O:gO X b (j6 C u)):PS X (.If c a b pos) (j6 C (vIf tc t u)):=
 VS.mk (Js (aaJ J) U O) λW p σ F H E D ok I=>⟨W,ok,qj D I λk p1 B H1 n z sh q=>d7 (λq=>⟨W,p1,B,E,n,ok,q,vW z⟩) (λq=>⟨W,p1,B,E,n,ok,q,vW z⟩) q⟩
end
section
variable {X:Cx} {C:Pc} {e o value:Expr} {es:List Expr} {pos pos' apos:Pos} {W:Hp} {f:Str} {K:PySem.W.Frag}
def X3 (K:PySem.W.Frag) (f:Str) (B z:Hp->TQ):lH:=λE W p=>z W p λev p1=>B W p1 λD p2=>∃x n dx fs v,MN (lk p2 ev)=some v/\lk p2 D=.atom (.ref x)/\W x=some (.ins n dx fs)/\vh K n/\iK K n f/\fs.length<1000/\E.nx (upd W x (.ins n dx (iW f v fs))) p2
theorem Uh (hK:X.K=K) (ho:∀W,cH C W->PE X o (Up (C.add W) (to W))) (hv:∀W,cH C W->PE X value (Up (C.add W) (tv W))) (hs:swapsWith value (some (.Attribute o f pos')) pos.line X.env=pure false:=by rfl) :
  PS X (.Assign [.Attribute o f pos'] value pos) (j6 C (X3 K f to tv)):=by
 subst hK
 exact VS.mk (VR (pH ho) (pH hv) hs) λW p σ F H E rs ok J=>⟨W,ok,up1 rs J λe1 p1 v1 F1 H1 D s1 Li U J=>⟨W,ok,up1 D J λe2 p2 v2 F2 H2 n Y z O hq=>by
  obtain ⟨x,Kl,dx,fs,v,g1,g2,Z,g4,g5,g6,q⟩:=hq
  rw [dw O g2,Gk (U.mono Y z) g1]
  obtain ⟨B,I⟩:=n.Mg (us:=.ins Kl dx (iW f v fs)) ok Z (.inr (.inr (.inl ⟨_,_,_,rfl⟩)))
  exact ⟨x,Kl,dx,fs,rfl,n.wH ok Z,g4,g5,g6,_,p2,F2,B,I,s1.trans Y,q⟩⟩⟩
def M3 (S:Cu) (I:Addr) (m:Str) (n:Hp->TQ) (z:Hp->TAQ):DY:=λW p Q=>n W p λB p1=>∃x dx fs,lk p1 B=.atom (.ref x)/\W x=some (.ins I dx fs)/\fs.lookup m=none/\z W p1 λes p2=>∃ds,P_ es=some ds/\S W (.atom (.ref x)::ds) λr D=>Q r D p2
theorem X4 {m : Str} {k : Nat} {ds0 : List (Str × Value)} (hK : X.K = C.K) (ho : ∀ W, cH C W → PE X o (Up (C.add W) (to W))) (c : vh X.K Kl) (hm : Meth X.K Kl m fa)
    (G : bY X.prog X.w X.K X.mg X.base m8 k fa fd ps (Jk X.K S)) (hr : bR k X.A) (hb : Binds X.K fd ps []) (ha : ∀ W, cH C W → PA X (e :: es) (iz (C.add W) (cR W)))
    (Z : starEach (e :: es) X.env = (false, eval e X.env) :: starEach es X.env := by rfl) (hpl : (backTo pos (starEach es X.env)).any (·.1) = false := by rfl)
    (ht : eval (.Call (.Attribute o m apos) (e :: es) [] pos) X.env = (do
      let ov ← eval o X.env
      standAt apos.atName
      let (f, first) ← holding [ov] (getMethod ov m pl)
      callWith pos f first (backTo pos (starEach (e :: es) X.env)) (backToKw pos (keywordEach [] X.env))) := by rfl) :
    PE X (.Call (.Attribute o m apos) (e :: es) [] pos) (qm C (M3 S Kl m to cR)) := λpins s σ H Q I hq => by
  obtain ⟨W, p, F, R, rs, ok, Y, hq⟩ := hq
  refine Fo (pH ho) c hm G hr hb .nil Af (aaK ha) Z hpl ht pins s σ H Q I ?_
  refine ⟨W, ok, up1 rs Y λe1 p1 v1 F1 H1 B s1 Li Im O => ?_⟩
  obtain ⟨x, dx, fs, h1, h2, h3, U⟩ := O
  have ev := dw Im h1
  subst ev
  refine ⟨x, dx, fs, rfl, B.wH ok h2, h3, W, ok, eY B U λes2 p2 vs2 F2 H2 n s2 Qa Aw O => ?_⟩
  obtain ⟨ds, g1, q⟩ := O
  rw [zW, hK]
  refine ⟨W, .atom (.ref x) :: ds, F2, _, n.sub, λb u z => ⟨n.wH ok z, n.wF ok z, ok.lst b u z⟩, .cons (.atom _) (rW (C := C.add W) Aw g1), q, λr v W' F' H' po hR => ?_⟩
  obtain ⟨D, J⟩ := RS.Ml n ok po
  exact hq r v W' p2 F' H' D J (s1.trans (s2.trans po.ext)) po.res hR
def M4 (S:Cu) (z:Addr):DY:=λW p Q=>∀x dx,W x=none->W dx=none->dx≠x->S (upd (upd W dx (.own x)) x (.ins z dx [])) [.atom (.ref x)] λd n=>d=.non/\Q (.atom (.ref x)) n p
theorem M5 {k:Nat} (hK:X.K=C.K) (M:Mk X.K Kl fa) (G:bY X.prog X.w X.K X.mg X.base m8 k fa fd ps (Jk X.K S)) (hr:bR (k+1) X.A) (hg:Gl X x) (hm:X.mg x=some (.ref Kl)) (hb:Binds X.K fd ps [])
  (hdb:(x == ("__debug__":Str))=false:=by decide):PE X (.Call (.Name x p0) [] [] pos) (qm C (M4 S Kl)):=λpins s σ H Q I hq=>by
 obtain ⟨W,p,F,R,rs,ok,ht',hq⟩:=hq
 refine JK M G hr hg hm hb .nil Af hdb pins s σ H Q I ?_
 show ∀x dx,_
 intro a da na J ne
 obtain ⟨f1,f2,f3⟩:=rs.free J
 obtain ⟨D,Z⟩:=(rs.laid (o:=.own a) J).Gi ok f1 f2 aJ (.inr (.inr (.inr ⟨_,rfl⟩))) f3
 have O:upd H da (.own a) a=none:=by rw [az (Ne.symm ne)];exact na
 obtain ⟨g1,g2,g3⟩:=D.free O
 obtain ⟨n,B⟩:=(D.laid (o:=.ins Kl da []) O).Gi Z g1 g2 aJ (.inr (.inr (.inl ⟨_,_,_,rfl⟩))) g3
 have wa:W a=none:=by
  have:=(gH g2).1
  rw [az (Ne.symm ne)] at this;exact this
 rw [hK]
 refine ⟨_,[.atom (.ref a)],F,_,n.sub,λb u z=>⟨n.wH B z,n.wF B z,B.lst b u z⟩,.cons (.atom _) .nil,ht' a da wa (gH f2).1 ne,λr v W' F' H' po hR=>?_⟩
 obtain ⟨U,Y⟩:=RS.Ml n B po
 obtain ⟨hr',hR⟩:=hR
 subst hr'
 have hv:v=.non:=by have:=po.res;cases this;rfl
 exact ⟨hv,hq (.atom (.ref a)) (.ref a) W' p F' H' U Y po.ext (.atom _) hR⟩
end
section
variable {X:Cx} {C:Pc} {e o:Expr} {es:List Expr} {pos apos:Pos} {f:Str} {K:PySem.W.Frag}
def M6 (K:PySem.W.Frag) (H0:Hp) (f:Str) (z:TQ):TQ:=λp Q=>z p λe1 p1=>∃x n dx fs v,lk p1 e1=.atom (.ref x)/\H0 x=some (.ins n dx fs)/\vh K n/\iK K n f/\fs.lookup f=some v/\Q (.fz (vd v)) p1
theorem Eb {D:TQ} (h0:C.bs=[]) (Y:X.K=K) (he:PE X e (Up C D)) (U:attributeBase e f X.env (eval e X.env)=eval e X.env:=by rfl):PE X (.Attribute e f pos) (Up C (M6 K C.H0 f D)):=by
 subst Y
 exact QE.mk (VP he U) λp σ F H R J O=>up1 J O λe1 p1 v1 F1 H1 n I sh B z=>by
  obtain ⟨x,Kl,dx,fs,v,h1,h2,h3,h4,Z,q⟩:=z
  exact ⟨x,Kl,dx,fs,v,dw B h1,n.keep _ _ h2 (λq z=>by rw [h0] at z;cases z),h3,h4,Z,bw n I sh (Ms v F1) q⟩
theorem M7 {m : Str} {k : Nat} (he : PE X o ta) (c : vh X.K Kl) (O : Meth X.K Kl m fa) (F : bY X.prog X.w X.K X.mg X.base (oV X.prog X.w) k fa fd ps sp) (hr : bR k X.A) (hb : Binds X.K fd ps []) (lk : pq X G) (ha : PA X (e :: es) t)
    (J : starEach (e :: es) X.env = (false, eval e X.env) :: starEach es X.env := by rfl) (hpl : (backTo pos (starEach es X.env)).any (·.1) = false := by rfl)
    (ht : eval (.Call (.Attribute o m apos) (e :: es) [] pos) X.env = (do
      let ov ← eval o X.env
      standAt apos.atName
      let (f, first) ← holding [ov] (getMethod ov m pl)
      callWith pos f first (backTo pos (starEach (e :: es) X.env)) (backToKw pos (keywordEach [] X.env))) := by rfl) :
    PE X (.Call (.Attribute o m apos) (e :: es) [] pos) (λσ H Q => ta σ H λx H1 => ∃ a dx fs, x = .ref a ∧ H1 a = some (.ins Kl dx fs) ∧ fs.lookup m = none ∧ t σ H1 λvs H2 => sp (x :: vs) H2 Q λcl _ H' => ∃ D, cl = .ref D ∧ G D σ H') := by
  intro pins s σ H Q I h
  refine PySem.W.methodCall_KW (pl := pl) (bu (he pins s σ H _ I h) λu s1 n => ?_) ht
  obtain ⟨x, H1, U, rx, a, dx, fs, ex, ea, l, q⟩ := n
  subst ex
  obtain rfl : u = Value.ref a := rx
  refine lZ U ea c O l ?_
  refine xh (first := [.ref a]) (h₀ := X.base) I.ok.mod.Qh O.kp (bu (ha pos pins s1 σ H1 _ U q) λus Z n => ?_) J hpl
  obtain ⟨vs, H2, B, r, q2⟩ := n
  refine ⟨B.q_, ?_⟩
  refine vC (us := .ref a :: us) (vs := .ref a :: vs) F hr hb B (.cons rfl r) q2 λe s' n => ?_
  obtain ⟨a', D, H', e1, e2, e3, un, hok, Y, C'', e4, g⟩ := n
  subst e1
  cases e4
  exact lk pins σ H2 Z H' s' a' D B (B.call' e2 un hok e3 (λb z => absurd z (by simp))) Y g
end
section
variable {X:Cx} {scope:Scope} {N:List Str} {k:Nat} {pins:List (Addr × Obj)} {σ:St} {H:Hp} {s:Shared} {fp:List Addr} {C:Pc} {XE:Addr->aQ->Prop}
theorem M8 {D:Addr} (S:a_ X scope N k) (I:Inv X pins σ H s) (hf:∀b∈fp,lU X pins H b) (hC:s.heap.objs.size<Z) (ln:Xx X C XE)
  (hs:X.stack=X.env::X.outer) (hL:X.env.frame=some X.env.locals) (hx:X.ex=[]):pq (dU X scope N Z s H fp (Wa X scope use Qc Z D)) (GX (C.sh k) λCl p=>XE Cl (p.drop k)):=by
 intro Fg σ4 H4 s4 H5 s5 a Cl J4 J5 tr ⟨p,F,rs,xe⟩
 obtain ⟨t0,t1,oe,vs,T,oT,ts,a1,a2,a3,a4,a5,a6,a7,a8,a9,a10⟩:=tr
 have B4:Un (frs X.stack) fp H H4 s.heap s4.heap:=J4.base
 have B:Un (frs X.stack) fp H H5 s.heap s5.heap:=J5.base
 have Y:∀b,s4.heap.get? b=none->X.s₀.heap.get? b=none/\∀o,s.heap.get? b=some o->b∈fp:=λb z=>by
  have h2:∀o,s.heap.get? b=some o->b∈fp:=λo q=>by
   by_cases U:b∈fp
   ·exact U
   ·obtain ⟨_,e⟩:=B4.there b o q U;rw [z] at e;cases e
  refine ⟨?_,h2⟩
  cases y:X.s₀.heap.get? b with
  | none=>rfl
  | some o=>
   obtain ⟨o2,e2⟩:=I.base.there b o y (by rw [hx];intro z;cases z)
   obtain ⟨_,_,_,O,_⟩:=hf b (h2 o2 e2)
   rcases O with O|O
   ·rw [hx] at O;cases O
   ·rw [y] at O;cases O
 have aev:∃o,s4.heap.get? Z=some o:=by obtain ⟨m,⟨o,_,_,ho,_⟩,_⟩:=J4.loc;exact ⟨o,ho⟩
 have neZ:∀b,s4.heap.get? b=none->Z≠b:=λb z y=>by obtain ⟨o,e⟩:=aev;rw [y,z] at e;cases e
 have nfZ:Z ∉ frs X.stack:=λz=>by
  obtain ⟨_,o',q',nf⟩:=I.stack.mem z
  exact absurd (zF q') (Nat.not_lt.mpr (xt hC))
 show wpAny _ _ (noteFrame (.ref a) X.env) _ _ s5
 refine uE (base:=X.base) (outer:=X.outer) (by rw [<-hs];exact J5.ok.frames) (by rw [<-hs];exact J5.stack) hL a1 a3 a4 a5 a8 a9 a10 λh6 n zq=>?_
 obtain ⟨oe',vs',J,oT',ts',fl,b1,b2,b3,b4,b5,b6,b7,b8,b9⟩:=zq
 rw [<-hs] at n
 have T4:X.s₀.heap.get? J=none/\H5 J=none/\(∀b o,s5.heap.get? b=some o->b≠T->b≠J)/\J≠Z:=by
  rcases b6 with z|z
  ·refine ⟨?_,?_,λb o e _ y=>(by rw [y,z] at e;cases e),λy=>?_⟩
   ·cases y:X.s₀.heap.get? J with
    | none=>rfl
    | some o=>
     obtain ⟨o2,e2⟩:=I.base.there J o y (by rw [hx];intro z;cases z)
     by_cases U:J∈fp
     ·obtain ⟨_,_,_,O,_⟩:=hf J U
      rcases O with O|O
      ·rw [hx] at O;cases O
      ·rw [y] at O;cases O
     ·obtain ⟨_,e⟩:=B.there J o2 e2 U;rw [z] at e;cases e
   ·cases y:H5 J with
    | none=>rfl
    | some o=>obtain ⟨_,e⟩:=(J5.hok _ _ y).ex;rw [z] at e;cases e
   ·obtain ⟨m,⟨o,_,_,ho,_⟩,_⟩:=J5.loc
    have ho:s5.heap.get? Z=some o:=ho
    rw [<-y,z] at ho;cases ho
  ·rw [z]
   exact ⟨(Y T a6).1,a7,λb o _ h=>h,λy=>neZ T a6 y.symm⟩
 obtain ⟨T1,T2,T3,T5⟩:=T4
 have e6:∀b o,s5.heap.get? b=some o->b≠a->b≠T->b ∉ frs X.stack->h6.get? b=some o:=λb o e n1 n2 n3=>n.keep b o e (λz=>by
  rcases zr.mp z with z|z
  ·exact n1 z
  ·exact n2 (zA.mp z)) n3
 obtain ⟨m,hn,_⟩:=J5.loc
 have hn':s5.heap.Ns Z m:=hn
 refine ⟨m,?_,λh7 sb=>?_⟩
 ·obtain ⟨o,es,ep,ho,r⟩:=hn'
  exact ⟨o,es,ep,e6 _ _ ho (neZ a t1) (neZ T a6) nfZ,r⟩
 have e7:∀b o,h6.get? b=some o->b≠Z->h7.get? b=some o:=λb o e z=>(sb.2 b z).trans e
 have c1:=e7 a _ b1 (Ne.symm (neZ a t1))
 have c7:=e7 J _ b7 T5
 have hz:=(yF.mp b9).1
 unfold PySem.passOn
 refine zh (xA c1 b3 b4 ?_)
 rw [zi (show ¬((Value.ref J == Value.none)=true) from by simp)]
 have step:wpAny (model X.prog X.w) X.A (setFlight (.ref a) (some X.env.locals)) (λ_ s2=>X.xe (.ref a) s2) X.xe { s5 with heap:=h7 }:=by
  unfold setFlight
  refine zh (xA c1 b3 b4 ?_)
  rw [zm (show (Value.ref J != Value.none)=true from by simp)]
  refine wpAny_setField c7 b8 hz ?_
  show X.xe (.ref a) { s5 with heap:=h7.update J (Obj.mapFields (·.setIfInBounds 3 (rawInt X.env.locals))) }
  obtain ⟨o',ts2,d1,d2,d3⟩:=sU (x:=rawInt X.env.locals) c7 b8 b9
  have e8:∀b o,h7.get? b=some o->b≠J->(h7.update J (Obj.mapFields (·.setIfInBounds 3 (rawInt X.env.locals)))).get? b=some o:=λb o e z=>(yS _ _ (Ne.symm z)).trans e
  have all:∀b o,s5.heap.get? b=some o->b≠a->b≠T->b ∉ frs X.stack->b≠Z->(h7.update J (Obj.mapFields (·.setIfInBounds 3 (rawInt X.env.locals)))).get? b=some o:=λb o e n1 n2 n3 n4=>e8 b o (e7 b o (e6 b o e n1 n2 n3) n4) (T3 b o e n2)
  have old:∀b o,s.heap.get? b=some o->b ∉ fp->b≠a/\b≠T/\b≠Z:=λb o e nb=>⟨λz=>nb ((Y b (z▸t1)).2 o e),λz=>nb ((Y b (z▸a6)).2 o e),zK (xf (zF e) hC)⟩
  have slt:∀b o,s5.heap.get? b=some o->b∈frs X.stack->b≠T->b≠Z->∃sl,(h7.update J (Obj.mapFields (·.setIfInBounds 3 (rawInt X.env.locals)))).get? b=some { o with slots:=sl }:=λb o e U n2 n4=>by
   obtain ⟨sl,q⟩:=n.slot b o e U
   exact ⟨sl,e8 b _ (e7 b _ q n4) (T3 b o e n2)⟩
  have I8:Inv X pins σ H5 { s5 with heap:=h7.update J (Obj.mapFields (·.setIfInBounds 3 (rawInt X.env.locals))) }:=by
   refine I.call' (ch:=fp) (show s5.os=s.os from J5.os) ?_ ?_ J5.bare λb U=>?_
   ·refine ⟨λb o q q0 n1 n2=>?_,λb o q q0 U n2=>?_,B.free,λb o q n2=>?_,B.qe⟩
    ·obtain ⟨x1,x2,x3⟩:=old b o q n2
     exact all b o (B.keep b o q q0 n1 n2) x1 x2 n1 x3
    ·obtain ⟨x1,x2,x3⟩:=old b o q n2
     obtain ⟨sl,e⟩:=B.slot b o q q0 U n2
     obtain ⟨sl',e'⟩:=slt b _ e U x2 x3
     exact ⟨sl',e'⟩
    ·obtain ⟨x1,x2,x3⟩:=old b o q n2
     obtain ⟨o1,e⟩:=B.there b o q n2
     by_cases U:b∈frs X.stack
     ·obtain ⟨sl',e'⟩:=slt b _ e U x2 x3;exact ⟨_,e'⟩
     ·exact ⟨_,all b o1 e x1 x2 U x3⟩
   ·intro b o q
    refine (J5.hok b o q).stay (λc u hc e1=>?_) λ_ z=>z
    have ht:H5 c≠none:=by
     rcases hc with rfl|hc
     ·rw [q];intro z;cases z
     ·rw [hc];intro z;cases z
    exact all c u e1 (λz=>ht (z▸t0)) (λz=>ht (z▸a7)) (λz=>ht (J5.qz c z)) (λz=>ht (z▸(show H5 Z=none from J5.free)))
   ·exact (hf b U).2
  have ea:=e8 a _ c1 (Ne.symm b5)
  refine ln pins σ _ H5 F _ a Cl X.env.locals _ hL I8 ⟨t0,(Y a t1).1,oe',vs',J,o',ts2,ea,by rw [b2,a2],b3,b4,b5,T1,T2,d1,d2,d3⟩ (rs.qM ?_) xe
  have l1:=rs.len
  have l2:σ4.length=N.length:=J5.len
  have l3:=S.len
  omega
 have fr:(compEnvC scope (dm X.env.cells scope.names []) Z X.env).frame=some X.env.locals:=hL
 rw [fr]
 first
  | exact zh (zC (zh (bu step λ_ _ z=>wpAny_throw z)))
  | exact zh (bu step λ_ _ z=>wpAny_throw z)
theorem RL {n:Expr} (S:a_ X scope N k) (hc:X.calm=true) (ln:Xx X C XE) (hi:PI X tg iter (uH C ti))
  (hg:∀Z s H fp E,PG (dU X scope N Z s H fp E) tg (pG (C.sh k) k g)) (z:∀Z s H fp E,xK (dU X scope N Z s H fp E) ifs (gB (C.sh k) tt))
  (he:∀Z s H fp E,pq (dU X scope N Z s H fp E) (GX (C.sh k) λCl p=>XE Cl (p.drop k))->PE (dU X scope N Z s H fp E) n (Up (C.sh k) te))
  (hs:X.stack=X.env::X.outer:=by rfl) (hL:X.env.frame=some X.env.locals:=by rfl) (hx:X.ex=[]:=by rfl)
  (hf:∀x,foldedSetIterable iter X.env x=pure x:=by intro _;rfl):PE X (.ListComp n [⟨tg,iter,ifs,0⟩] scope pos) (nj C (nW k ti g tt te)):=by
 refine QN.mk (t:=Ag k (uH C ti) (pG (C.sh k) k g) (gB (C.sh k) tt) (Up (C.sh k) te)) (λpins s σ H Q I h=>?_) λp σ F H R rs z=>Bd rs z λ_ _ h=>h
 rw [eval_ListComp]
 refine o_ JW S hc hi hg z (λZ s H fp O J D=>vB (he Z s H fp _ (M8 S O J D ln hs hL hx))) hf I h λs2 H2 fp C Y H5 s5 oD ob O J D U hd q=>?_
 obtain ⟨mC,B,_⟩:=U.loc
 exact ⟨mC,B,λh' sb=>⟨.ref s2.heap.objs.size,_,rJ O J D rfl U hd sb,rfl,q⟩⟩
end
section
variable {prog:Program} {w:World} {A:Around} {E:Value->Shared->Prop} {s:Shared}
theorem M9 (B:s.heap.IsTupleIter j t i) (J:s.heap.IsTuple t vs) (I:vs[i]? = some x)
  (q:∀h',h'.IsTupleIter j t (i+1)->Heap.SameBut j s.heap h'->Q x { s with heap:=h' }):wpAny (model prog w) A (Builtin.SmallTypes.nextOf (.ref j)) Q E s:=by
 obtain ⟨o,n,O,hd⟩:=id B
 obtain ⟨U,z,_,Y,D⟩:=J
 unfold Builtin.SmallTypes.nextOf
 refine zh (wpAny_callSpecial?_slot (name:=Str.ofString "__next__") B.typeIs F.slot_tuple_iterator_next (wpAny_call_entry F.slot_tuple_iterator_next B.typeIs F.entry_tuple_iterator_next ?_ (F.args_tuple_iterator_next_1 _)))
 show wpAny _ _ (field (.ref j) 0 >>= _) _ _ s
 refine zh (xA n hd (x:=.ref t) rfl ?_)
 show wpAny _ _ (if (Value.ref t == Value.none)=true then _ else _) _ _ s
 rw [zi (show ¬((Value.ref t == Value.none)=true) by simp)]
 show wpAny _ _ (field (.ref j) 1 >>= _) _ _ s
 refine zh (xA n hd (x:=.int i 0) rfl ?_)
 show wpAny _ _ (seqItems? (.ref t) >>= _) _ _ s
 refine zh (wpAny_seqItems z D ?_)
 simp only [xB,I]
 exact zh (wpAny_setField n hd (by simp) (zC ⟨x,rfl,zC (q _ ⟨_,Heap.get?_update_self _ n (Obj.isFreed_of_fields (xg hd _)),(Obj.cls_mapFields ..).trans O,by rw [xg hd];simp [rawInt]⟩ (Heap.SameBut.update ..))⟩))
theorem Gm (n:Nat) {i j:Nat} (h:(i == j)=false):n+i≠n+j:=λz=>by rw [Nat.add_left_cancel z] at h;simp at h
structure ZT (n l1 l2:Addr) (i:Nat) (h:Heap):Prop where
 z:IsZip h (n+4) (n+2) (n+3) .none
 ti:IsPair h (n+2) (.ref n) (.ref (n+1))
 tO:∃a b,IsPair h (n+3) a b
 l:h.IsListIter n l1 i
 t:h.IsTupleIter (n+1) l2 i
abbrev X5 (n:Addr):List Addr:=[n+4,n+2,n+3,n,n+1]
theorem Ec {n b:Nat} (h:b∈X5 n):n<=b/\b<=n+4:=by
 simp only [zr,yJ,or_false] at h
 omega
theorem uL {n Y l2:Addr} {k:Nat} {xs:Array Value} {Q:Option Value->Shared->Prop} (hh:A.handled=none) (h1:Y<n) (h2:l2<n) (st:ZT n Y l2 k s.heap) (hl1:s.heap.IsList Y xs)
  (hi:∀x,xs[k]? = some x->∃ys y,s.heap.IsTuple l2 ys/\ys[k]? = some y/\∀h',IsZip h' (n+4) (n+2) (n+3) (rawInt s.heap.objs.size)->IsPair h' (n+2) (.ref n) (.ref (n+1))->IsPair h' (n+3) x y->h'.IsListIter n Y (k+1)->h'.IsTupleIter (n+1) l2 (k+1)->IsPair h' s.heap.objs.size x y->
   (∀c o,c ∉ X5 n->s.heap.get? c=some o->h'.get? c=some o)->Q (some (.ref s.heap.objs.size)) { s with heap:=h' })
  (he:xs[k]? = none->∀h',(∀c o,c ∉ X5 n->s.heap.get? c=some o->h'.get? c=some o)->Q none { s with heap:=h' }):wpAny (model prog w) A (pyNext (.ref (n+4))) Q E s:=by
 obtain ⟨Z,hTI,⟨a,b,hTO⟩,hI,hJ⟩:=st
 have n1:n≠n+4:=Gm n (i:=0) rfl
 have n2:n≠n+3:=Gm n (i:=0) rfl
 have n3:n+1≠n+4:=Gm n rfl
 have n4:n+1≠n+3:=Gm n rfl
 have n5:n+3≠n+4:=Gm n rfl
 have n6:n≠n+1:=Gm n (i:=0) rfl
 have n7:n+2≠n+4:=Gm n rfl
 have n8:∀{l j:Nat},l<n->l≠n+j:=λh=>zK (zI h (Nat.le_add_right _ _))
 have hT:s.TypeIs (.ref (n+4)) "zip":=⟨_,Z,rfl⟩
 have out:∀c,c ∉ X5 n->c≠n+4/\c≠n+3/\c≠n/\c≠n+1:=λc D=>⟨λz=>D (z▸.head _),λz=>D (z▸.tail _ (.tail _ (.head _))),λz=>D (z▸.tail _ (.tail _ (.tail _ (.head _)))),λz=>D (z▸.tail _ (.tail _ (.tail _ (.tail _ (.head _)))))⟩
 unfold pyNext
 refine zh (wpAny_attempt (wpAny_callSpecial?_slot (name:=Str.ofString "__next__") hT F.slot_zip_next (wpAny_call_entry F.slot_zip_next hT F.entry_zip_next ?_ (F.args_zip_next_1 _))))
 show wpAny _ _ (field (.ref (n+4)) 2 >>= _) _ _ _
 refine zh (xA Z rfl (x:=.bool false) rfl ?_)
 show wpAny _ _ (field (.ref (n+4)) 3 >>= _) _ _ _
 refine zh (xA Z rfl (x:=.ref (n+2)) rfl (zh (wpAny_seqItems hTI rfl ?_)))
 show wpAny _ _ (Builtin.SmallTypes.ownedTupleIsFree (.ref (n+4)) >>= _) _ _ _
 refine zh ?_
 unfold Builtin.SmallTypes.ownedTupleIsFree
 refine zh (xA Z rfl (x:=.none) rfl (zC ?_))
 simp only [if_true]
 refine zh (wpAny_rule (zh (xA Z rfl (x:=.ref (n+3)) rfl (zh (wpAny_setField_rec Z (by simp) λha za sa=>?_)))))
 replace za:IsZip ha (n+4) (n+2) (n+3) .ellipsis:=za
 refine zh ?_
 simp only [List.zipIdx_cons,List.zipIdx_nil,List.forIn_cons,List.forIn_nil]
 refine zh (zh (wpAny_onRaise ?_))
 show wpAny _ _ (Builtin.SmallTypes.nextOf (.ref n) >>= _) _ _ _
 have l1z:Y≠n+4:=n8 h1
 cases hx:xs[k]? with
 | none=>
  refine zh (wpAny_nextOf_list_end hh (hI.extBut sa.extBut n1) (hl1.extBut sa.extBut l1z) hx λhb e J zq=>?_)
  obtain ⟨oe,O,hce⟩:=zq
  have zb:IsZip hb (n+4) (n+2) (n+3) .ellipsis:=J _ _ (Ne.symm n1) za
  have ez:e≠n+4:=λy=>by subst y;rw [zb] at O;cases O;simp at hce
  refine wpAny_setField_rec zb (by simp) λD _ I=>?_
  refine zh (wpAny_isInstance (T:="StopIteration") (b:=true) ⟨oe,I.extBut _ _ ez O,hce⟩ isSubtype_stop ?_)
  exact zC (he hx _ λc o D x=>I.extBut _ _ (out c D).1 (J _ _ (out c D).2.2.1 (sa.extBut _ _ (out c D).1 x)))
 | some x=>
  obtain ⟨ys,y,hl2,hy,hQ⟩:=hi x hx
  refine zh (wpAny_nextOf_list_item (hI.extBut sa.extBut n1) (hl1.extBut sa.extBut l1z) hx λhb ib J=>zC ?_)
  have tb:IsPair hb (n+3) a b:=J.extBut _ _ (Ne.symm n2) (sa.extBut _ _ n5 hTO)
  refine zh (wpAny_seqItems tb rfl (zh (wpAny_updateSeq_pair tb λD tc I=>?_)))
  replace tc:IsPair D (n+3) x b:=tc
  refine zh (wpAny_letGo (zC (zh (zh (wpAny_onRaise ?_)))))
  show wpAny _ _ (Builtin.SmallTypes.nextOf (.ref (n+1)) >>= _) _ _ _
  refine zh (M9 (((hJ.extBut sa.extBut n3).extBut J.extBut (Ne.symm n6)).extBut I.extBut n4) (((hl2.extBut sa.extBut (n8 h2)).extBut J.extBut (zK h2)).extBut I.extBut (n8 h2)) hy λhd jd sd=>zC ?_)
  have td:IsPair hd (n+3) x b:=sd.extBut _ _ (Ne.symm n4) tc
  refine zh (wpAny_seqItems td rfl (zh (wpAny_updateSeq_pair td λB te se=>?_)))
  replace te:IsPair B (n+3) x y:=te
  refine zh (wpAny_letGo (zC (zC (zh (wpAny_seqItems te rfl (zh (wpAny_newTuple ?_)))))))
  have hsz:B.objs.size=s.heap.objs.size:=by rw [se.1,sd.1,I.1,J.1,sa.1]
  have ze:IsZip B (n+4) (n+2) (n+3) .ellipsis:=se.extBut _ _ (Ne.symm n5) (sd.extBut _ _ (Ne.symm n3) (I.extBut _ _ (Ne.symm n5) (J.extBut _ _ (Ne.symm n1) za)))
  have kp:∀c o,c≠n+4->c≠n+3->c≠n->c≠n+1->s.heap.get? c=some o->B.get? c=some o:=λc o U c2 c3 c4 e=>se.extBut _ _ c2 (sd.extBut _ _ c4 (I.extBut _ _ c2 (J.extBut _ _ c3 (sa.extBut _ _ U e))))
  have ie:B.IsListIter n Y (k+1):=((ib.extBut I.extBut n2).extBut sd.extBut n6).extBut se.extBut n2
  have je:B.IsTupleIter (n+1) l2 (k+1):=jd.extBut se.extBut n4
  have zlt:n+4<B.objs.size:=zF ze
  show wpAny _ _ (Builtin.SmallTypes.ownedTupleHandOut (.ref (n+4)) (.ref B.objs.size) >>= _) _ _ _
  refine zh ?_
  unfold Builtin.SmallTypes.ownedTupleHandOut
  have zf:IsZip (B.push { cls:=.type "tuple",data:=.seq #[x,y] }) (n+4) (n+2) (n+3) .ellipsis:=zu _ ze
  refine zh (wpAny_setField_rec zf (by simp) λh6 z6 s6=>?_)
  replace z6:IsZip h6 (n+4) (n+2) (n+3) (rawInt B.objs.size):=z6
  refine wpAny_setField_rec z6 (by simp) λh7 z7 s7=>?_
  replace z7:IsZip h7 (n+4) (n+2) (n+3) (rawInt B.objs.size):=z7
  have up:∀c o,c≠n+4->B.get? c=some o->h7.get? c=some o:=λc o U e=>s7.extBut _ _ U (s6.extBut _ _ U (zu _ e))
  have t7:IsPair h7 B.objs.size x y:=s7.extBut _ _ (Nat.ne_of_gt zlt) (s6.extBut _ _ (Nat.ne_of_gt zlt) (zD _ rfl))
  refine zC ⟨_,rfl,zC ?_⟩
  show Q (some (.ref B.objs.size)) _
  rw [hsz] at z7 t7 ⊢
  obtain ⟨oi,ei,ri⟩:=ie
  obtain ⟨oj,ej,rj⟩:=je
  exact hQ h7 z7 (up _ _ n7 (kp _ _ n7 (Gm n rfl) (Ne.symm (Gm n (i:=0) rfl)) (Gm n rfl) hTI)) (up _ _ n5 te) ⟨oi,up _ _ n1 ei,ri⟩ ⟨oj,up _ _ n3 ej,rj⟩ t7 λc o D e=>by
   obtain ⟨U,c2,c3,c4⟩:=out c D
   exact up c o U (kp c o U c2 c3 c4 e)
end
def X6 (K:PySem.W.Frag) (n z:Addr):It:=
 ⟨λi H=>∃xs ys x y,jr K H n xs/\Cr K H z ys/\xs[i]? = some x/\ys[i]? = some y,
  λi H x H'=>∃t u v,x=.ref t/\H t=none/\(∀xs,jr K H n xs->xs[i]? = some u)/\(∀ys,Cr K H z ys->ys[i]? = some v)/\H'=upd H t (.tup [u,v]),
  λi H=>∃xs,jr K H n xs/\xs.length<=i⟩
theorem Ir {P:Program} {w:World} {K:PySem.W.Frag} {es:List Expr} {k:Nat} {pos:Pos} {n l1 l2:Addr} (h1:l1<n) (Z:l2<n):Turn P w K (.Tuple es k pos) (X6 K l1 l2) (X5 n) (n+4) (ZT n l1 l2) where
 mem:=.head _
 obj:=λi h st b J=>by
  obtain ⟨h1,Z,⟨a,b',h3⟩,⟨o4,h4,c4,d4⟩,⟨o5,h5,c5,d5⟩⟩:=st
  simp only [zr,yJ,or_false] at J
  rcases J with rfl|rfl|rfl|rfl|rfl
  ·exact ⟨_,h1,λv z=>by cases z⟩
  ·exact ⟨_,Z,λv z=>by cases z⟩
  ·exact ⟨_,h3,λv z=>by cases z⟩
  ·exact ⟨o4,h4,λv z=>by rw [d4] at z;cases z⟩
  ·exact ⟨o5,h5,λv z=>by rw [d5] at z;cases z⟩
 keep:=λi h h' st kp=>by
  obtain ⟨h1,Z,⟨a,b',h3⟩,h4,⟨o,q,r⟩⟩:=st
  exact ⟨kp _ (.head _) _ h1,kp _ (.tail _ (.head _)) _ Z,⟨a,b',kp _ (.tail _ (.tail _ (.head _))) _ h3⟩,h4.at λo q=>kp _ (.tail _ (.tail _ (.tail _ (.head _)))) o q,⟨o,kp _ (.tail _ (.tail _ (.tail _ (.tail _ (.head _))))) o q,r⟩⟩
 item:=by
  intro X hP hw hK hc i pins s σ H E I hf st hg
  subst hP hw hK
  obtain ⟨xs,ys,x,y,D,hq2,hx,hy⟩:=hg
  obtain ⟨O,U,p1,_⟩:=I.list D
  obtain ⟨its2,rv2,p2,_⟩:=I.tuple hq2
  obtain ⟨u,hu,ru⟩:=U.get hx
  obtain ⟨v,hv,rvv⟩:=rv2.get hy
  have hu':O.toArray[i]? = some u:=by simpa using hu
  have zl:n+4<s.heap.objs.size:=zF st.z
  refine uL (I.ok.hd hc) h1 Z st p1.isList (λu' hu2=>⟨_,v,p2,by simpa using hv,λh' w1 w2 w3 w4 w5 w6 w7=>?_⟩) λhn=>by rw [hu'] at hn;cases hn
  obtain rfl:=yg (hu'.symm.trans hu2)
  refine ⟨_,rfl,wpAny_letOwnedTupleGo_zip w1 λh'' v1 v2=>?_⟩
  have B:Heap.SameBut (n+4) h' h'':=v2
  have fresh:H s.heap.objs.size=none:=I.hok.fresh (zx _)
  have up:∀b o,b ∉ X5 n->s.heap.get? b=some o->h''.get? b=some o:=λb o q1 q=>B.extBut b o (λz=>q1 (z▸.head _)) (w7 b o q1 q)
  have I1:Inv X pins σ (upd H s.heap.objs.size (.tup [x,y])) { s with heap:=h'',toks:=s.toks }:=I.moved hf up (λb _ q=>az (zK q)) ((I.hok.moved (λb J=>(hf b J).1) up).track fresh
   ⟨by show 2<=sizeLine;decide,[u,v],.cons ru (.cons rvv .nil),⟨_,B.extBut _ _ (Nat.ne_of_gt zl) w6,rfl,_,rfl⟩⟩)
  refine ⟨.ref s.heap.objs.size,_,I1,rfl,⟨_,x,y,rfl,fresh,λzs Y=>by rw [I.rC Y D];exact hx,λzs Y=>by rw [I.Hj Y hq2];exact hy,rfl⟩,⟨v1,B.extBut _ _ (Gm n rfl) w2,⟨u,v,B.extBut _ _ (Gm n rfl) w3⟩,w4.at λo q=>B.extBut _ o (Gm n (i:=0) rfl) q,?_⟩,λb J=>?_⟩
  ·obtain ⟨o,q,r⟩:=w5
   exact ⟨o,B.extBut _ o (Gm n rfl) q,r⟩
  ·rw [az (zK (Nat.lt_of_le_of_lt (Ec J).2 zl))];exact (hf b J).1
 done:=by
  intro X hP hw hK hc i pins s σ H E I hf st hg
  subst hP hw hK
  obtain ⟨xs,D,hend⟩:=hg
  obtain ⟨O,U,p1,_⟩:=I.list D
  have l1':=U.length
  exact uL (I.ok.hd hc) h1 Z st p1.isList (λx hx=>by have:=(yF.mp hx).1;simp at this;omega) λ_ h' eb=>⟨rfl,I.moved (t':=s.toks) hf eb (λ_ _ _=>rfl) (I.hok.moved (λb J=>(hf b J).1) eb)⟩
 self:=λ_ _ _ _ _ st h=>wpAny_pyIter_zip st.z h
theorem Iu {s:Shared} (J:s.heap.IsList l1 xs) (I:s.heap.IsTuple l2 ys)
  (h:∀h',IsZip h' (s.heap.objs.size+4) (s.heap.objs.size+2) (s.heap.objs.size+3) .none->IsPair h' (s.heap.objs.size+2) (.ref s.heap.objs.size) (.ref (s.heap.objs.size+1))->IsPair h' (s.heap.objs.size+3) .none .none->
   h'.IsListIter s.heap.objs.size l1 0->h'.IsTupleIter (s.heap.objs.size+1) l2 0->(∀c o,s.heap.get? c=some o->h'.get? c=some o)->Q (.ref (s.heap.objs.size+4)) { s with heap:=h' }):wpAny (model prog w) A (call (.type "zip") [.ref l1,.ref l2]) Q E s:=by
 let g1:Heap:=s.heap.push { cls:=.type "list_iterator",data:=.fields #[.ref l1,.int 0 0] }
 let g2:Heap:=g1.push { cls:=.type "tuple_iterator",data:=.fields #[.ref l2,.int 0 0] }
 let g3:Heap:=g2.push { cls:=.type "tuple",data:=.seq #[.ref s.heap.objs.size,.ref g1.objs.size] }
 let g4:Heap:=g3.push { cls:=.type "tuple",data:=.seq #[.none,.none] }
 let g5:Heap:=g4.push { cls:=.type "zip",data:=.fields #[.none,.bool false,.bool false,.ref g2.objs.size,.ref g3.objs.size] }
 have B:g1.objs.size=s.heap.objs.size+1:=xo ..
 have z:g2.objs.size=s.heap.objs.size+2:=by rw [xo,B]
 have n:g3.objs.size=s.heap.objs.size+3:=by rw [xo,z]
 have Y:g4.objs.size=s.heap.objs.size+4:=by rw [xo,n]
 have M:Meets (Builtin.«zip.__new__» ⟨[.type "zip",.ref l1,.ref l2],[]⟩) (λ_ R s'=>s'=s/\R (.ok (.ret (.ref g4.objs.size))) { s with heap:=g5 }):=.of_wp λprog w A R s' h=>by
  obtain ⟨e,h⟩:=h
  subst e
  obtain ⟨hp,g,d,tk,os⟩:=s'
  have hsub:=sub_zip
  have U:Heap.IsList (Shared.heap ⟨hp,g,d,tk,os⟩) l1 xs:=J
  have O:Heap.IsTuple (Shared.heap ⟨hp.push { cls:=.type "list_iterator",data:=.fields #[.ref l1,.int 0 0] },g,d,tk,os⟩) l2 ys:=Heap.IsTuple.push I _
  wp_walk using wpAny_pyIter_list U,wpAny_pyIter_tuple O
  exact ⟨_,rfl,h⟩
 refine callType_new F.called_zip (by decide) (F.typeCall_zip_2 _ _) (F.newCall_zip_2 _ _) (λobj=>F.args_object_init_3 obj _ _) F.entry_zip_new M ⟨rfl,?_⟩
 have k5:∀{c o},g4.get? c=some o->g5.get? c=some o:=zu _
 have k4:∀{c o},g3.get? c=some o->g5.get? c=some o:=λq=>k5 (zu _ q)
 have k3:∀{c o},g2.get? c=some o->g5.get? c=some o:=λq=>k4 (zu _ q)
 have k2:∀{c o},g1.get? c=some o->g5.get? c=some o:=λq=>k3 (zu _ q)
 have D:g5.get? g4.objs.size=some _:=zD _ rfl
 have Z:g5.get? g3.objs.size=some _:=k5 (zD _ rfl)
 have q3:g5.get? g2.objs.size=some _:=k4 (zD _ rfl)
 have q2:g5.get? g1.objs.size=some _:=k3 (zD _ rfl)
 have q1:g5.get? s.heap.objs.size=some _:=k2 (zD _ rfl)
 show _/\_
 rw [z,n,Y] at D
 rw [B,z] at q3
 rw [n] at Z
 rw [B] at q2
 rw [Y]
 exact ⟨⟨_,D,rfl⟩,h _ D q3 Z ⟨_,q1,rfl,rfl⟩ ⟨_,q2,rfl,rfl⟩ λc o x=>k2 (zu _ x)⟩
section
variable {X:Cx} {C:Pc} {a b c e:Expr} {cR:TAQ} {pos ps ps2:Pos} {K:PySem.W.Frag} {F:Hp}
def aaU (K:PySem.W.Frag) (n:TA):TI:=λσ H R=>n σ H λvs H1=>∃a b xs ys,vs=[.ref a,.ref b]/\jr K H1 a xs/\Cr K H1 b ys/\R (X6 K a b) H1
theorem RM {ta:TA} {es:List Expr} {k:Nat} {pos J n:Pos} (hg:Gl X "zip") (hm:X.mg "zip"=none) (ha:PA X [a,b] ta) (hs:starEach [a,b] X.env=[(false,eval a X.env),(false,eval b X.env)]:=by rfl) (B:starEach [b] X.env=[(false,eval b X.env)]:=by rfl) :
  PI X (.Tuple es k pos) (.Call (.Name "zip" J) [a,b] [] n) (aaU X.K ta):=by
 intro pins s σ H R I h
 refine Call_ (gD (u:=.type "zip") I hg hm (by kernel_rfl) (zX (bu (ha n pins s σ H _ I h) λus z ⟨vs,H1,D,r1,q1⟩=>?_) (by rw [hs,B]) (by rw [B];rfl)))
 obtain ⟨l1,l2,xs,ys,e,Z,Y,q⟩:=q1
 subst e
 cases r1 with
 | cons r rr=>
  cases rr with
  | cons r' rr=>
   cases rr
   cases r
   cases r'
   obtain ⟨ah2,rv1,p1,hz1⟩:=D.list Z
   obtain ⟨its2,rv2,J,hz2⟩:=D.tuple Y
   have U:l1<z.heap.objs.size:=by obtain ⟨o,q,_⟩:=p1.isList;exact zF q
   have O:l2<z.heap.objs.size:=by obtain ⟨o,q,_⟩:=J;exact zF q
   refine Iu p1.isList J λh1 hz hTI hTO hi1 hi2 up1=>?_
   refine wpAny_pyIter_zip (s:={ z with heap:=h1 }) hz ⟨_,X5 z.heap.objs.size,_,_,H1,rfl,D.kept (t':=z.toks) up1,Ir U O,⟨hz,hTI,⟨_,_,hTO⟩,hi1,hi2⟩,λb hb=>?_,q⟩
   exact D.Vy (Ec hb).1 (D.hok.fresh (Ec hb).1)
def Qd (K:PySem.W.Frag) (a:Addr) (ns:List Int):Prop:=∃(o:Obj) (z:Array Value) (n:Nat),K.lookup a=some o/\o.cls=.type "tuple"/\o.data=.seq z n/\z.size<=sizeLine/\Vals (ns.map V.int) z.toList
theorem Qd.sq {ns:List Int} (h:Qd K x ns):Cr K H x (ns.map V.int):=.inr h
theorem RN {ds:List D} {ns:List Int} (h:F x=some (.lst vs)) (r:aW K F ds vs) (h':Qd K y ns) (hl:ds.length=ns.length):JQ K (X6 K x y) ds.length (λi=>.tup [ds.getD i .non,.int (ns.getD i 0)]) F:=by
 have sq:∀{B H:Hp},aX B H->aX F B->jr K H x vs:=λn s=>.of (n _ _ (s _ _ h))
 have I:∀i,i<ds.length->(ns.map V.int)[i]? = some (.int (ns.getD i 0)):=λi hi=>by
  rw [zO,zn,zg (by omega)];rfl
 refine ⟨λi B H n s hi=>?_,λi B H v H' n s hi z=>?_,λB H n s=>⟨vs,sq n s,by rw [r.length];exact zx _⟩⟩
 ·obtain ⟨v,e1,_⟩:=r.get (getD_some hi)
  exact ⟨vs,_,v,_,sq n s,h'.sq,e1,I i hi⟩
 ·obtain ⟨t,u,w,e1,e2,Z,Y,U⟩:=z
  subst e1 U
  obtain ⟨u',O,J⟩:=r.get (getD_some hi)
  have q1:=Z vs (sq n s)
  have q2:=Y _ h'.sq
  rw [O] at q1;cases q1
  rw [I i hi] at q2;cases q2
  exact .inr ⟨t,_,_,e2,rfl,rfl,rfl,.cons (J.mono s) (.cons (.int _) .nil)⟩
def X7 (K:PySem.W.Frag) (n:TAQ):t6:=λp Q=>n p λes p1=>∃e f xs y ns,es=[e,f]/\e=.fz (.lst xs)/\f=.fz (.atom (.ref y))/\Qd K y ns/\xs.length=ns.length/\Q xs.length (λi=>.tup [xs.getD i .non,.int (ns.getD i 0)]) p1
theorem M_ {k:Nat} (hK:X.K=C.K) (hg:Gl X "zip") (hm:X.mg "zip"=none) (ha:PA X [a,b] (iz C cR)) (hs:starEach [a,b] X.env=[(false,eval a X.env),(false,eval b X.env)]:=by rfl) (z:starEach [b] X.env=[(false,eval b X.env)]:=by rfl):PI X (.Tuple ts k pos) (.Call (.Name "zip" ps) [a,b] [] ps2) (uH C (X7 X.K cR)):=
 QI.mk (RM hg hm ha hs z) λp σ F H R Y Z=>eY Y Z λes1 p1 O F1 H1 n U sh D J=>by
  obtain ⟨e1,e2,xs,y,ns,h0,h1,h2,B,h4,q⟩:=J
  obtain ⟨v,w,rfl,er,I⟩:=Dw D h0
  subst h1 h2
  cases er with
  | lst q1 r1=>
   cases I with
   | atom _=>exact ⟨_,_,_,_,rfl,.of (n.sub _ _ q1),B.sq,_,_,p1,F1,n,U,sh,by rw [hK] at B ⊢;exact RN q1 r1 B h4,q⟩
def Nb (K:PySem.W.Frag) (n:TAQ):TQ:=λp Q=>n p λes p1=>∃(e:Ev) (x:Addr) (ns:List Int),es=[e]/\lk p1 e=.atom (.ref x)/\Qd K x ns/\Q (.fz (.int ns.length)) p1
theorem Gn (Y:Gl X "len") (U:X.mg "len"=none) (Z:PA X [e] (iz C cR)) (he:starEach [e] X.env=(false,eval e X.env)::starEach [] X.env:=by rfl):PE X (.Call (.Name "len" ps) [e] [] pos) (Up C (Nb X.K cR)):=
 QE.mk (iY (uA rfl) Y U PySem.boot_len Z (he:=he)) λp σ F H R J O=>eY J O λes1 p1 D F1 H1 n I sh z B=>by
  obtain ⟨e1,x,ns,h1,h2,h3,q⟩:=B
  obtain ⟨v,rfl,er⟩:=rY z h1
  rw [dw er h2]
  exact ⟨x,_,rfl,.inr h3.sq,bw n I sh (by rw [zd];exact .int _) q⟩
end
open PyProof.Rows.KTD (Rows datumAt inKeys isSome_datumAt kt_dictFind_strs)
structure KTb (K:PySem.W.Frag) (a:Addr) (T:List (Str × Addr)):Prop where
 lo:(a == sysModules)=false
 ex:∃(o:Obj) (es:Array DictEntry) (ep:Nat),K.lookup a=some o/\o.ExactDict/\o.data=.dict es ep/\Rows (λd v=>v=Value.ref d) es.toList T
section
variable {prog:Program} {w:World} {A:Around} {E:Value->Shared->Prop} {s:Shared} {K:PySem.W.Frag} {a:Addr} {T:List (Str × Addr)} {k:Str} {tk:Tok}
theorem KTb.ty (t:KTb K a T) (I:K.In s.heap):s.TypeIs (.ref a) "dict":=by
 obtain ⟨o,_,_,h,x,_⟩:=t.ex
 exact ⟨o,I _ _ h,x.1⟩
theorem KTb.get (t:KTb K a T) (I:K.In s.heap) (q:Q ((datumAt k T).map Value.ref) { s with toks:=s.toks+1 }):wpAny (model prog w) A (dictGet a (.str k tk)) Q E s:=by
 obtain ⟨o,es,J,h,x,hd,n⟩:=t.ex
 have B:=I _ _ h
 obtain ⟨l⟩:=es
 have hf:((l.find? λe=>e.key.isStr k).map (·.val))=(datumAt k T).map Value.ref:=by
  cases z:datumAt k T with
  | none=>exact n.find_none z
  | some d=>obtain ⟨v,e1,e2⟩:=n.find_some z;rw [e1,e2];rfl
 rw [<-hf] at q
 have D:findBy (λk v=>v.isStr k) ⟨l⟩ k=(l.find? λe=>e.key.isStr k).map (·.val):=by simp [findBy]
 rw [<-D,findBy_of_findIdx?] at q
 unfold dictGet
 try with_reducible refine ya ?_
 refine zh (wpAny_pyHash_str (zh (kt_dictFind_strs (s:={ s with toks:=s.toks+1 }) B hd (by simpa using n.exact) ?_)))
 cases z:(⟨l⟩:Array DictEntry).findIdx? λe=>e.key.isStr k with
 | none=>rw [z] at q;exact zC q
 | some i=>rw [z] at q;exact zh (wpAny_dictEntries (s:={ s with toks:=s.toks+1 }) B hd (zC q))
theorem KTb.aaV (t : KTb K a T) (I : K.In s.heap) (q : Q (.bool (!inKeys k T)) { s with toks := s.toks + 1 }) : wpAny (model prog w) A (compareOp .NotIn (.str k tk) (.ref a)) Q E s := by
  have ty := t.ty I
  rw [← isSome_datumAt] at q
  show wpAny _ _ (do return .bool (!(← contains (.ref a) (.str k tk)))) Q E s
  refine zh ?_
  unfold contains
  try with_reducible refine ya ?_
  refine zh (wpAny_specialOf ty slot_dict_contains.lookup ?_)
  show wpAny _ _ (if (some (Value.builtin "dict.__contains__") == some Value.none) = true then _ else _) _ E s
  rw [zi (by rw [beq_builtin_none]; exact ym)]
  refine zh (wpAny_callSpecialUnlessNone?_slot (name := Str.ofString "__contains__") ty slot_dict_contains (wpAny_call_entry slot_dict_contains ty entry_dict_contains ?_ (args_dict_contains _ _)))
  show wpAny _ _ (dictGet a (.str k tk) >>= _) _ _ s
  refine zh (t.get I ?_)
  cases z : datumAt k T with
  | some d =>
    rw [z] at q
    show wpAny _ _ (ret (.bool true)) _ _ _
    exact zC ⟨_, rfl, yy (zC q)⟩
  | none =>
    rw [z] at q
    show wpAny _ _ (Builtin.Dict.pendingKey? a (.str k tk) >>= _) _ _ _
    exact zh (wpAny_pendingKey_other t.lo (zC ⟨_, rfl, yy (zC q)⟩))
theorem KTb.item {n z:Expr} {Q:Value->Shared->Prop} {d:Addr} (t:KTb K a T) (I:K.In s.heap) (hd:datumAt k T=some d) (q:Q (.ref d) { s with toks:=s.toks+1 })
  (B:subscripted z false (.ref a) (.str k tk)=operate [.ref a,.str k tk] (getItem (.ref a) (.str k tk))) (D:∀r,letTemporaryGo n (.ref a) r=pure ()):wpAny (model prog w) A (subscriptTail n z (.ref a) (.str k tk)) Q E s:=by
 have ty:=t.ty I
 refine subscriptTail_builtin ty slot_dict_getitem.lookup ?_ B D
 unfold getItem
 try with_reducible refine ya ?_
 refine zh (wpAny_sequenceKey ty (by decide) ?_)
 refine zh (wpAny_callSpecial?_slot (name:=Str.ofString "__getitem__") ty slot_dict_getitem (wpAny_call_entry slot_dict_getitem ty entry_dict_getitem ?_ (args_dict_getitem _ _)))
 show wpAny _ _ (dictGet a (.str k tk) >>= _) _ _ s
 refine zh (t.get I ?_)
 rw [hd]
 exact zC ⟨_,rfl,zC q⟩
end
section
variable {X:Cx} {C:Pc} {e:Expr} {x:Str} {a:Addr} {T:List (Str × Addr)} {ta:TQ} {pos pos':Pos}
def Nf (T:List (Str × Addr)) (n:TQ):m9:=λp Q=>n p λe p1=>∃w,lk p1 e=.str w/\Q (!inKeys w T) p1
theorem Ng (t:KTb X.K a T) (hg:Gl X x) (hm:X.mg x=some (.ref a)) (he:PE X e (Up C ta)) (hd:(x == ("__debug__":Str))=false:=by decide) (hb:behindInMarks .NotIn (.Name x pos')=false:=by rfl):PT X (.Compare e [.NotIn] [.Name x pos'] pos) (gB C (Nf T ta)):=by
 have ho:iB X (compareOp .NotIn) (λu v H Q=>∃w,u=.str w/\v=.ref a/\Q (.bl (!inKeys w T)) H):=λpins s σ H u v J v2 Q I Z Y n=>by
  obtain ⟨w,e1,e2,q⟩:=n
  subst e1 e2
  obtain ⟨t1,rfl⟩:=Z
  obtain rfl:=Y
  exact t.aaV I.q_ ⟨.bl _,H,I.kept (t':=s.toks+1) λ_ _ z=>z,rfl,q⟩
 exact QT.mk (fY ho he (e_ (v:=.ref a) hg hm rfl hd) hb) λp σ F H R U ht=>up1 U ht λe1 p1 J F1 H1 B O sh D n=>by obtain ⟨w,h1,q⟩:=n;exact ⟨w,bZ D h1,rfl,_,rfl,p1,F1,B,O,sh,q⟩
def X8 (T:List (Str × Addr)) (n:TQ):TQ:=λp Q=>n p λe p1=>∃w d,lk p1 e=.str w/\datumAt w T=some d/\Q (.fz (.atom (.ref d))) p1
theorem Bm (t:KTb X.K a T) (hg:Gl X x) (hm:X.mg x=some (.ref a)) (he:PE X e (Up C ta)) (hs:nG e) (hd:(x == ("__debug__":Str))=false:=by decide):PE X (.Subscript (.Name x pos') e pos) (Up C (X8 T ta)):=by
 have hr:PE X (.Subscript (.Name x pos') e pos) (ZG (λu v H Q=>∃w d,u=.ref a/\v=.str w/\datumAt w T=some d/\Q (.ref d) H) (tC (.ref a)) (Up C ta)):=λpins s σ H Q I h=>
  Subscript_ (Qn (e_ (v:=.ref a) hg hm rfl hd) he I h λO v2 U u v H2 J r1 r2 n=>by
   obtain ⟨w,d,e1,e2,e3,q⟩:=n
   subst e1 e2
   obtain rfl:=r1
   obtain ⟨t2,rfl⟩:=r2
   exact t.item J.q_ e3 ⟨.ref d,H2,J.kept (t':=U.toks+1) λ_ _ z=>z,rfl,q⟩ (hs _ _) λr=>rfl)
 exact QE.mk hr λp σ F H R Z ht=>up1 Z ht λe1 p1 O F1 H1 B Y sh D n=>by obtain ⟨w,d,h1,h2,q⟩:=n;exact ⟨w,d,rfl,bZ D h1,h2,bw B Y sh (.atom _) q⟩
end
theorem Inv.laidN {X:Cx} {s:Shared} {h':Heap} (I:Inv X pins σ H s) (k:∀b u,s.heap.get? b=some u->h'.get? b=some u) (D:s.heap.get? a=none) (new:bN X.prog X.w (upd H a o) h' a o) :
  H a=none/\Inv X pins σ (upd H a o) { s with heap:=h',toks:=t' }:=by
 have B:H a=none:=by
  cases q:H a with
  | none=>rfl
  | some u=>obtain ⟨_,e⟩:=(I.hok _ _ q).ex;rw [D] at e;cases e
 refine ⟨B,I.un ⟨λb u q _ _ _=>k b u q,λb u q _ _ _=>⟨u.slots,k b u q⟩,λb u q n _=>?_,λb u q _=>⟨u,k b u q⟩,λb u xs q=>?_⟩ ((I.hok.kept k).track B new)⟩
 ·rw [az (λz=>by rw [z,D] at q;cases q)];exact n
 ·rw [az (bC q B)];exact q
theorem Bo {A:Around} {s:Shared} {vs:List Value} (n:s.heap.IsList l (x::vs).toArray) (Z:A.handled=none) (hz:vs.length<sizeLine)
  (q:∀D h' tk,s.heap.get? D=none->(∀b o,s.heap.get? b=some o->h'.get? b=some o)->h'.get? D=some { cls:=.type "list",data:=.seq vs.toArray }->Q [x,.ref D] { s with heap:=h',toks:=tk }):wpAny (model prog w) A (unpackItems (.ref l) 2 (some 1)) Q E s:=by
 have lt:l<s.heap.objs.size:=by obtain ⟨o,U,_⟩:=n;exact zF U
 have ne:l≠s.heap.objs.size:=zK lt
 unfold unpackItems
 refine zh ?_
 unfold notIterableAtAll
 refine zh (wpAny_specialOf n.typeIs slot_list_iter.lookup (zC ?_))
 simp only [Bool.false_eq_true,if_false]
 refine zh (ya (wpAny_pyIter_list n (zh (ya (PySem.W.kun_draw ne 1 0 _ _ ⟨_,zD _ rfl,rfl,rfl⟩ (n.push _) (by simp) λh1 O I=>?_)))))
 have J:h1.IsList l (x::vs).toArray:=(n.push _).extBut I.extBut ne
 obtain ⟨oi,B,_⟩:=id O
 obtain ⟨ol,z,_⟩:=id J
 refine zh (ya (PySem.W.kun_collect (s:={ s with heap:=h1 }) (T:="list_iterator") (.inr (.inr (.inl rfl))) (Walks.list (A:=A.in1) Z s.heap.objs.size l ne (x::vs).toArray) (λj u st=>st.1.typeIs) (k:=1) (by simp) ⟨O,J⟩ (zF B) (zF z) (λh2 tk Y=>?_) (by show _<=_;simp;omega)))
 have kp:∀b o,s.heap.get? b=some o->h2.get? b=some o:=λb o e=>Y b o (zK (zF e)) (I.extBut b o (zK (zF e)) (zu _ e))
 show wpAny _ _ (newList _ >>= λd=>pure _) _ _ _
 refine zh (wpAny_newList (s:={ s with heap:=h2,toks:=tk }) (zC ?_) ?_)
 ·have fr:s.heap.get? h2.objs.size=none:=by
   cases y:s.heap.get? h2.objs.size with
   | none=>rfl
   | some o=>exact absurd (zF (kp _ _ y)) (xw _)
  have e1:(List.take ((List.drop 1 (x::vs).toArray.toList).length - (2 - 1 - 1)) (List.drop 1 (x::vs).toArray.toList))=vs:=by simp
  have:=q h2.objs.size (h2.push { cls:=.type "list",data:=.seq vs.toArray }) tk fr (λb o e=>zu _ (kp b o e)) (zD _ rfl)
  rw [e1]
  simpa using this
 ·simp;omega
section
variable {X:Cx} {C:Pc} {a b:Expr} {pos pos':Pos} {K:PySem.W.Frag}
theorem RP {k:Nat} (hc:X.calm=true) (ha:PG X a ta) (hb:PG X b tb) (J:(assignEach [a,.Starred b pos'] X.env)=[(false,assign a X.env),(true,assign b X.env)]:=by rfl) :
  PG X (.Tuple [a,.Starred b pos'] k pos) (λv σ H Q=>∃l x xs,v=.ref l/\jr X.K H l (x::xs)/\∀D,H D=none->ta x σ (upd H D (.lst xs)) λn H1=>tb (.ref D) n H1 Q):=by
 intro pins s σ H v u Q I r ⟨l,x,xs,e,hq,h⟩
 subst e
 obtain rfl:=r
 obtain ⟨its,Z,ht,O⟩:=I.list hq
 cases Z with
 | @cons _ y _ ys rx rs=>
 rw [assign_Tuple]
 refine zh (xx ?_)
 unfold unpack
 rw [J]
 refine zh (ya (Bo ht.isList (I.ok.hd hc) (by rw [<-rs.length];simp at O;omega) λD h' tk d0 kp hD=>?_))
 obtain ⟨J,I1⟩:=I.laidN (o:=.lst xs) (t':=tk) kp d0 ⟨by simp at O;omega,ys,0,rs,hD⟩
 refine assignInOrder_cons (bu (ha pins _ σ _ x y _ I1 rx (h D J)) λ_ Y B=>?_)
 obtain ⟨n,H1,J1,q1⟩:=B
 refine assignInOrder_cons (bu (hb pins Y n H1 (.ref D) (.ref D) _ J1 rfl q1) λ_ U B=>?_)
 obtain ⟨z,H2,J2,q2⟩:=B
 exact u_ pins U z H2 [] [] Q J2 .nil ⟨rfl,q2⟩
def Ed (g g':rZ):rZ:=λx p Q=>∃y ys,x=.lst (y::ys)/\g y p λp1=>g' (.lst ys) p1 Q
theorem Nh {k:Nat} (hK:X.K=C.K) (hc:X.calm=true) (ha:PG X a (Ie C g)) (hb:PG X b (Ie C g')) (hn:(assignEach [a,.Starred b pos'] X.env)=[(false,assign a X.env),(true,assign b X.env)]:=by rfl):PG X (.Tuple [a,.Starred b pos'] k pos) (Ie C (Ed g g')):=
 QG.mk (RP hc ha hb hn) λp σ F H x v R J Z n=>by
  obtain ⟨y,ys,hx,q⟩:=n
  subst hx
  cases Z with
  | lst q1 r1=>
   cases r1 with
   | @cons _ _ _ vr ry ryr=>
    refine ⟨_,_,_,rfl,.of (J.sub _ _ q1),λD hD=>?_⟩
    have sm:=cZ (J.free hD).1 (HO.lst vr)
    refine ⟨p,_,y,_,J.put hD,ry.mono sm,q,λU H1 n=>?_⟩
    obtain ⟨p1,F1,I,z,q1⟩:=n
    exact ⟨p1,F1,.lst ys,R,I,.lst (z _ _ aJ) (ryr.mono (sm.trans z)),q1,λO H2 n=>by obtain ⟨p2,F2,B,Y,q2⟩:=n;exact ⟨p2,F2,B,sm.trans (z.trans Y),q2⟩⟩
end
def Kp (C:Pc) (H:Hp):Prop:=∀a o,C.H0 a=some o->(∀q∈C.bs,q.2≠a)->H a=some o
theorem Ni {C:Pc} {ds:List D} {H:Hp} (h:∀q∈C.bs,(∃xs,(ds.map Sl.d)[q.1]? = some (.bor xs))/\∃us,H q.2=some (.lst us)):C.bs=[]:=by
 cases e:C.bs with
 | nil=>rfl
 | cons q r=>
  obtain ⟨⟨xs,z⟩,_⟩:=h q (by rw [e];exact zo)
  rw [zO] at z
  cases y:ds[q.1]? with
  | none=>rw [y] at z;cases z
  | some d=>rw [y] at z;cases z
section
variable {X:Cx} {C:Pc} {a b c e o:Expr} {ta tb tc:TQ} {pos apos:Pos} {K:PySem.W.Frag} {p:aQ} {σ:St} {F H:Hp} {st:Stmt} {es:List Expr} {cR:TAQ} {x:Str} {XE:Addr->aQ->Prop} {t u:lH}
theorem RS.kp (rs:RS C p σ F H):Kp C H:=λa o h n=>rs.keep a o h n
def Ef (C:Pc) (S:Rk) (t:TAQ):TN:=λp Q=>t p λes p1=>∃as,eE p1 es=some as/\(fO es).Nodup/\∀H,Kp C H->S H as λr n=>Q r (back p1 es n)
theorem qQ {ps:List Str} {k:Nat} {S:Rk} {p0:Pos} (hK:X.K=C.K) (D:aO X.K X.mg x st ps) (G:bY X.prog X.w X.K X.mg X.base m8 k D.f D.fd ps (Zg X.K S)) (hr:bR k X.A) (ha:PA X (e::es) (iz C cR))
  (hg:Gl X x:=by rfl) (J:(x == ("__debug__":Str))=false:=by decide) (he:starEach (e::es) X.env=(false,eval e X.env)::starEach es X.env:=by rfl) (hpl:(backTo pos (starEach es X.env)).any (·.1)=false:=by rfl) :
  PE X (.Call (.Name x p0) (e::es) [] pos) (nj C (Ef C S cR)):=
 QN.mk (rK D G hr ha hg J he hpl) λp σ F H R Y ht=>eY Y ht λes1 p1 O F1 H1 n U sh z h=>by
  obtain ⟨as,h1,nd,q⟩:=h
  rw [zW,hK]
  refine ⟨as,F1,_,n.sub,(iG n z h1 nd).1,q H1 n.kp,λr as' v F' H' po hq=>?_⟩
  obtain ⟨I,B,Z⟩:=n.call z h1 nd po
  exact ⟨r,_,F',I,U.trans po.ext,sh.trans B,Z,hq⟩
def vY (C:Pc) (S:Rk) (I:Addr) (m:Str) (z:TQ) (B:TAQ):TN:=λp Q=>z p λD p1=>∃x dx fs,lk p1 D=.atom (.ref x)/\C.H0 x=some (.ins I dx fs)/\C.bs=[]/\fs.lookup m=none/\B p1 λes p2=>∃as,eE p2 (.fz (.atom (.ref x))::es)=some as/\(fO es).Nodup/\∀H,Kp C H->S H as λr n=>Q r (back p2 (.fz (.atom (.ref x))::es) n)
theorem RQ {m : Str} {k : Nat} (hK : X.K = C.K) (ho : PE X o (Up C to)) (c : vh X.K Kl) (hm : Meth X.K Kl m fa) (G : bY X.prog X.w X.K X.mg X.base m8 k fa fd ps (Zg X.K S)) (hr : bR k X.A) (hb : Binds X.K fd ps []) (ha : PA X (e :: es) (iz C cR))
    (hst : starEach (e :: es) X.env = (false, eval e X.env) :: starEach es X.env := by rfl) (hpl : (backTo pos (starEach es X.env)).any (·.1) = false := by rfl)
    (ht : eval (.Call (.Attribute o m apos) (e :: es) [] pos) X.env = (do
      let ov ← eval o X.env
      standAt apos.atName
      let (f, first) ← holding [ov] (getMethod ov m pl)
      callWith pos f first (backTo pos (starEach (e :: es) X.env)) (backToKw pos (keywordEach [] X.env))) := by rfl) :
    PE X (.Call (.Attribute o m apos) (e :: es) [] pos) (nj C (vY C S Kl m to cR)) :=
  QN.mk (Fo ho c hm G hr hb .nil Af ha hst hpl ht) λp σ F H R rs ht => up1 rs ht λe1 p1 v1 F1 H1 z s1 U Im Z => by
    obtain ⟨x, dx, fs, h1, h2, h2', h3, ht2⟩ := Z
    have ev := dw Im h1
    subst ev
    refine ⟨x, dx, fs, rfl, z.keep _ _ h2 (λq D => by rw [h2'] at D; cases D), h3, eY z ht2 λes2 p2 I F2 H2 n s2 O Aw Z => ?_⟩
    obtain ⟨as, g1, nd, q⟩ := Z
    have B : nJ C.K p2 σ F2 (.fz (.atom (.ref x)) :: es2) (.ref x :: I) := .cons (show Rep _ _ (.atom (.ref x)) _ from .atom _) Aw
    rw [zW, hK]
    refine ⟨as, F2, _, n.sub, (iG n B g1 nd).1, q H2 n.kp, λr as' v F' H' po D => ?_⟩
    obtain ⟨Y, J, rr⟩ := n.call B g1 nd po
    exact ⟨r, _, F', Y, s1.trans (s2.trans po.ext), U.trans (O.trans J), rr, D⟩
def vZ (C:Pc) (S:XHp) (J:Addr) (m:Str) (I:Addr->aQ->Prop) (z:TQ) (B:TAQ):TN:=λp _=>z p λD p1=>∃x dx fs,lk p1 D=.atom (.ref x)/\C.H0 x=some (.ins J dx fs)/\C.bs=[]/\fs.lookup m=none/\B p1 λes p2=>∃as n,eE p2 (.fz (.atom (.ref x))::es)=some as/\(fO es).Nodup/\(∀H,Kp C H->S H as n)/\I n (back p2 (.fz (.atom (.ref x))::es) as)
theorem RT {m : Str} {k : Nat} (hK : X.K = C.K) (ho : PE X o (Up C to)) (c : vh X.K Kl) (hm : Meth X.K Kl m fa) (G : bY X.prog X.w X.K X.mg X.base (oV X.prog X.w) k fa fd ps (Rv X.K S)) (hr : bR k X.A) (hb : Binds X.K fd ps [])
    (lk : pq X (GX C XE)) (ha : PA X (e :: es) (iz C cR))
    (U : starEach (e :: es) X.env = (false, eval e X.env) :: starEach es X.env := by rfl) (hpl : (backTo pos (starEach es X.env)).any (·.1) = false := by rfl)
    (O : eval (.Call (.Attribute o m apos) (e :: es) [] pos) X.env = (do
      let ov ← eval o X.env
      standAt apos.atName
      let (f, first) ← holding [ov] (getMethod ov m pl)
      callWith pos f first (backTo pos (starEach (e :: es) X.env)) (backToKw pos (keywordEach [] X.env))) := by rfl) :
    PE X (.Call (.Attribute o m apos) (e :: es) [] pos) (nj C (vZ C S Kl m XE to cR)) :=
  QN.mk (M7 ho c hm G hr hb lk ha U hpl O) λp σ F H R rs O => up1 rs O λe1 p1 v1 F1 H1 z s1 Li Im I => by
    obtain ⟨x, dx, fs, h1, h2, Y, h3, J⟩ := I
    have ev := dw Im h1
    subst ev
    refine ⟨x, dx, fs, rfl, z.keep _ _ h2 (λq hq => by rw [Y] at hq; cases hq), h3, eY z J λZ p2 D F2 H2 n s2 Qa Aw I => ?_⟩
    obtain ⟨as, Cl, g1, nd, hS, q⟩ := I
    have B : nJ C.K p2 σ F2 (.fz (.atom (.ref x)) :: Z) (.ref x :: D) := .cons (show Rep _ _ (.atom (.ref x)) _ from .atom _) Aw
    rw [hK]
    exact ⟨as, F2, Cl, n.sub, (iG n B g1 nd).1, hS H2 n.kp, λF' H' po => ⟨Cl, rfl, _, F', (n.call B g1 nd po).1, q⟩⟩
def Eg (G:Addr->eZ->Prop) (z:TQ) (B:TAQ):TN:=λp Q=>z p λD p1=>∃f S,lk p1 D=.atom (.ref f)/\G f S/\B p1 λes p2=>∃as,eE p2 es=some as/\(fO es).Nodup/\S as λr n=>Q r (back p2 es n)
theorem RV (hK:X.K=C.K) (hn:PE X (.Name x p0) (Up C tf)) (hG:∀f S,G f S->∃k fd ps,bY X.prog X.w X.K X.mg X.base m8 k f fd ps (DK X.K S)/\bR k X.A/\Binds X.K fd ps []/\PySem.W.keepIn X.K (.ref f)=true) (ha:PA X (e::es) (iz C cR))
  (he:starEach (e::es) X.env=(false,eval e X.env)::starEach es X.env:=by rfl) (hpl:(backTo pos (starEach es X.env)).any (·.1)=false:=by rfl):PE X (.Call (.Name x p0) (e::es) [] pos) (nj C (Eg G tf cR)):=by
 intro pins s σ H Q I ⟨p,F,R,rs,ht,hq⟩
 refine yV (bu (hn pins s σ H _ I ⟨p,F,_,rs,ht,λv H1 z=>z⟩) λfv s1 zq=>?_)
 obtain ⟨v,H1,I1,r1,e1,p1,F1,Ga,Y,O,Im,f,S,h1,h2,ht2⟩:=zq
 have ev:=dw Im h1
 subst ev
 obtain rfl:=r1
 obtain ⟨k,fd,ps,fn,hr,hb,kp⟩:=hG f S h2
 refine xh (h₀:=X.base) I.ok.mod.Qh kp (bu (ha pos pins s1 σ H1 _ I1 ⟨p1,F1,_,Ga,ht2,λvs H2 z=>z⟩) λus s2 ⟨vs,H2,I2,r2,es2,p2,F2,n,U,J,B,as,g1,nd,q⟩=>⟨I2.q_,?_⟩) he hpl
 refine Dc fn hr hb .nil Af I2 r2 ?_
 rw [zW,hK]
 refine ⟨as,F2,_,n.sub,(iG n B g1 nd).1,q,λr as' v F' H' po hR=>hq v H' ?_⟩
 obtain ⟨Z,D,rr⟩:=n.call B g1 nd po
 exact ⟨r,_,F',Z,Y.trans (U.trans po.ext),O.trans (J.trans D),rr,hR⟩
def v5 (G:Addr->Ik->Prop) (I:Addr->aQ->Prop) (z:TQ) (B:TAQ):TN:=λp _=>z p λD p1=>∃f S,lk p1 D=.atom (.ref f)/\G f S/\B p1 λes p2=>∃as n,eE p2 es=some as/\(fO es).Nodup/\S as n/\I n (back p2 es as)
theorem Bp (hK:X.K=C.K) (hn:PE X (.Name x p0) (Up C tf)) (hG:∀f S,G f S->∃k fd ps,bY X.prog X.w X.K X.mg X.base (oV X.prog X.w) k f fd ps (spX X.K S)/\bR k X.A/\Binds X.K fd ps []/\PySem.W.keepIn X.K (.ref f)=true) (lk:pq X (GX C XE)) (ha:PA X (e::es) (iz C cR))
  (he:starEach (e::es) X.env=(false,eval e X.env)::starEach es X.env:=by rfl) (hpl:(backTo pos (starEach es X.env)).any (·.1)=false:=by rfl):PE X (.Call (.Name x p0) (e::es) [] pos) (nj C (v5 G XE tf cR)):=by
 intro pins s σ H Q I ⟨p,F,R,rs,ht,hq⟩
 refine yV (bu (hn pins s σ H _ I ⟨p,F,_,rs,ht,λv H1 z=>z⟩) λfv s1 zq=>?_)
 obtain ⟨v,H1,I1,r1,e1,p1,F1,O,s1',Li,Y,f,S,h1,h2,U⟩:=zq
 have ev:=dw Y h1
 subst ev
 obtain rfl:=r1
 obtain ⟨k,fd,ps,fn,hr,hb,kp⟩:=hG f S h2
 refine xh (h₀:=X.base) I.ok.mod.Qh kp (bu (ha pos pins s1 σ H1 _ I1 ⟨p1,F1,_,O,U,λvs H2 z=>z⟩) λus s2 ⟨vs,H2,D,r2,es2,p2,F2,n,s2',Qa,B,as,Cl,Z,nd,hS,q⟩=>⟨D.q_,?_⟩) he hpl
 refine vC (E:=λcl _ H'=>∃J,cl=.ref J/\GX C XE J σ H') fn hr hb D r2 ?_ λev s' hx=>?_
 ·rw [hK]
  exact ⟨as,F2,Cl,n.sub,(iG n B Z nd).1,hS,λF' H' po=>⟨Cl,rfl,_,F',(n.call B Z nd po).1,q⟩⟩
 ·obtain ⟨a',J,H',z1,z2,z3,un,hok,tr,C'',z4,g⟩:=hx
  subst z1
  cases z4
  exact lk pins σ H2 s2 H' s' a' J D (D.call' z2 un hok z3 (λb z=>absurd z (by simp))) tr g
def vOr (t u:lH):lH:=λE W p=>t E W p\/u E W p
theorem v_or (O:PS X st (j6 C t)) (J:PS X st (j6 C u)):PS X st (j6 C (vOr t u)):=λpins s σ H B I D=>by
 obtain ⟨W,p,F,E,z,ok,n,l⟩:=D
 rcases n with n|n
 ·exact O pins s σ H B I ⟨W,p,F,E,z,ok,n,l⟩
 ·exact J pins s σ H B I ⟨W,p,F,E,z,ok,n,l⟩
end
theorem sY {ti:t6} {B:TQ} {Q:Rt->aQ->Prop} {p:aQ} {n m:Nat} {a b:Nat->D} {p1:aQ} (I:∀Q:Nat->(Nat->D)->aQ->Prop,Q n (λi=>.tup [a i,b i]) p1->ti p Q) (U:n<=100000) (f:Nat->D)
  (O:∀i (R:Ev->aQ->Prop),i<n->i<m->R (.fz (f i)) (some (.d (a i))::some (.d (b i))::p1)->B (some (.d (a i))::some (.d (b i))::p1) R) (J:∀R:Ev->aQ->Prop,m<n->B (some (.d (a m))::some (.d (b m))::p1) R)
  (hd:n<=m->Q (.ro ((List.range n).map f)) p1):nW 2 ti (A_ 2 (pF (mD 0) (pF (mD 1) Az))) vP B p Q:=by
 refine DN I U (λi ys p2=>i<=m/\ys=(List.range i).map f/\∃o u:Option D,p2=(o.map Sl.d)::(u.map Sl.d)::p1) ⟨ye _,rfl,none,none,rfl⟩ (λi ys p2 h=>by rw [h.2.1,zd,List.length_range];exact zx _) ?_ ?_
 ·rintro i ys p2 hi ⟨Z,rfl,o,u,rfl⟩
  refine ⟨_,rfl,rfl,_,_,rfl,by cases o<;>rfl,_,_,rfl,by cases u<;>rfl,rfl,?_⟩
  show vP (some (.d (a i))::some (.d (b i))::p1) _
  unfold vP
  simp only [if_true]
  by_cases z:i<m
  ·refine O i _ hi z ⟨_,rfl,by omega,?_,some (a i),some (b i),rfl⟩
   rw [List.range_succ,yf];rfl
  ·have e:i=m:=by omega
   subst e
   exact J _ hi
 ·rintro ys p2 ⟨Y,rfl,o,u,rfl⟩
  exact hd Y
theorem mK:∀{ts:List Str} {n:List Value},Vals (ts.map V.str) n->StrsAre n ts
 | [],_,.nil=>.nil
 | _::_,_,.cons r t=>by
  obtain ⟨k,rfl⟩:=r
  exact .cons _ _ (mK t)
section
variable {X:Cx} {C:Pc} {a b:Expr} {ta tb:TQ} {pos:Pos}
def RW (f:Bool->Bool) (g:List D->D) (z n:TQ):m9:=λp Q=>z p λe1 p1=>n p1 λe2 p2=>∃(x:Str) (ts:List Str),lk p2 e1=.str x/\lk p2 e2=g (ts.map D.str)/\Q (f (ts.any (· == x))) p2
theorem Nj (ha:PE X a (Up C ta)) (hb:PE X b (Up C tb)) (hm:behindInMarks .NotIn b=false:=by rfl):PT X (.Compare a [.NotIn] [b] pos) (gB C (RW (λk=>!k) D.tup ta tb)):=by
 have ho:iB X (compareOp .NotIn) (λu v H Q=>∃(x:Str) (l:Addr) (ts:List Str),u=.str x/\v=.ref l/\H l=some (.tup (ts.map V.str))/\Q (.bl (!ts.any (· == x))) H):=λpins s σ H u v U O Q I r1 r2 z=>by
  obtain ⟨x,l,ts,e1,e2,h,q⟩:=z
  subst e1 e2
  obtain ⟨t1,rfl⟩:=r1
  obtain rfl:=r2
  obtain ⟨its,Z,hl,_⟩:=I.tuple (Cr.of h)
  exact notin_tuple_strs hl (mK Z) ⟨.bl _,H,I,rfl,q⟩
 exact QT.mk (fY ho ha hb hm) λp σ F H R rs ht=>rR rs ht λe1 e2 p1 U O F1 H1 n Y sh J B z=>by
  obtain ⟨x,ts,h1,h2,q⟩:=z
  obtain ⟨l,vs,rfl,g,r⟩:=vI n B h2
  rw [r.strs] at g
  exact ⟨x,l,ts,bZ J h1,rfl,g,_,rfl,p1,F1,n,Y,sh,q⟩
end
section
variable {X:Cx} {C:Pc} {e o:Expr} {pos apos:Pos} {F0:Hp} {es:List Expr} {cR:TAQ} {XE:Addr->aQ->Prop}
theorem Nk {z: Addr} {m : Str} {k : Nat} (Y : X.K = C.K) (I : PE X o (Up (C.at F0) to)) (c : vh X.K Kl) (J : Meth X.K Kl m z) (G : bY X.prog X.w X.K X.mg X.base m8 k z fd ps (Zg X.K S)) (D : bR k X.A) (O : Binds X.K fd ps []) (U : PA X (e :: es) (iz (C.at F0) cR))
    (n : starEach (e :: es) X.env = (false, eval e X.env) :: starEach es X.env := by rfl) (hpl : (backTo pos (starEach es X.env)).any (·.1) = false := by rfl)
    (B : eval (.Call (.Attribute o m apos) (e :: es) [] pos) X.env = (do
      let ov ← eval o X.env
      standAt apos.atName
      let (f, first) ← holding [ov] (getMethod ov m pl)
      callWith pos f first (backTo pos (starEach (e :: es) X.env)) (backToKw pos (keywordEach [] X.env))) := by rfl) :
    PE X (.Call (.Attribute o m apos) (e :: es) [] pos) (nj (C.at F0) (vY C S Kl m to cR)) := RQ (C := C.at F0) Y I c J G D O U n hpl B
theorem Nm {z: Addr} {m : Str} {k : Nat} (Y : X.K = C.K) (I : PE X o (Up (C.at F0) to)) (c : vh X.K Kl) (J : Meth X.K Kl m z) (G : bY X.prog X.w X.K X.mg X.base (oV X.prog X.w) k z fd ps (Rv X.K S)) (D : bR k X.A) (O : Binds X.K fd ps [])
    (lk : pq X (GX (C.at F0) XE)) (U : PA X (e :: es) (iz (C.at F0) cR))
    (n : starEach (e :: es) X.env = (false, eval e X.env) :: starEach es X.env := by rfl) (hpl : (backTo pos (starEach es X.env)).any (·.1) = false := by rfl)
    (B : eval (.Call (.Attribute o m apos) (e :: es) [] pos) X.env = (do
      let ov ← eval o X.env
      standAt apos.atName
      let (f, first) ← holding [ov] (getMethod ov m pl)
      callWith pos f first (backTo pos (starEach (e :: es) X.env)) (backToKw pos (keywordEach [] X.env))) := by rfl) :
    PE X (.Call (.Attribute o m apos) (e :: es) [] pos) (nj (C.at F0) (vZ C S Kl m XE to cR)) := RT (C := C.at F0) Y I c J G D O lk U n hpl B
end
theorem hE {α:Sort _} {P:α->Prop} {a:α} (h:P a):∃x,P x:=⟨a,h⟩
theorem hA {α:Sort _} {a b:α} {P:Prop} (e:a=b) (h:P):a=b/\P:=⟨e,h⟩
theorem hN {P:Prop} (h:P):([]:List Nat).Nodup/\P:=⟨x9,h⟩
theorem hT {P:Prop} (h:P):True/\P:=⟨trivial,h⟩
theorem hL {n:Nat} {P:Prop} (e:Nat.ble n 100000=true) (h:P):n<=100000/\P:=⟨Nat.le_of_ble_eq_true e,h⟩
theorem hC1 {A B:Prop} (e:c=true) (h:A):if c=true then A else B:=by rw [zm e];exact h
theorem hC0 {A B:Prop} (e:c=false) (h:B):if c=true then A else B:=by rw [zi (by rw [e];decide)];exact h
end L2
namespace L2
theorem hG (h:Ax t u E p):Ax t u E p:=h
theorem hV (h:uh t u E W p):uh t u E W p:=h
theorem pK {c:Prop} {_:Decidable c} {A B:Prop} (n:c->A) (h0:¬c->B):if decide c=true then A else B:=by
 by_cases h:c
 ·rw [yj h];exact n h
 ·rw [zY h];exact h0 h
theorem RX {A B:Prop} (n:c=true->A) (h0:c=false->B):if c=true then A else B:=by
 cases c
 ·exact h0 rfl
 ·exact n rfl
theorem hQ {P:Prop} (e:jF a b) (h:P):jF a b/\P:=⟨e,h⟩
theorem X_ {A B:Prop} (n:i=j->A) (h0:¬i=j->B):if Ao (.int i) (.int j)=true then A else B:=by
 by_cases h:i=j
 ·subst h;rw [show Ao (.int i) (.int i)=true by simp [Ao]];exact n rfl
 ·rw [show Ao (.int i) (.int j)=false by simp [Ao,h]];exact h0 h
theorem qt {i j:PySem.Str} {A B:Prop} (n:i=j->A) (h0:¬i=j->B):if Ao (.str i) (.str j)=true then A else B:=by
 by_cases h:i=j
 ·subst h;rw [show Ao (.str i) (.str i)=true by simp [Ao]];exact n rfl
 ·rw [show Ao (.str i) (.str j)=false by simp [Ao,h]];exact h0 h
theorem hD {i j:Int} {P:Prop} (e:decide (0<j/\j<18446744073709551616)=true) (h:P):FP i j/\P:=⟨⟨(yY e).1,.inl (yY e).2⟩,h⟩
theorem nbv (e:p[i]? = some (Option.map Sl.d v)):ql p i=true:=by
 unfold ql;rw [e];cases v<;>rfl
theorem hX {α β:Sort _} {b:β} {g:α->β} {a:α} {P:Prop} (e:b=g a) (h:P):(∃z,b=g z)/\P:=⟨⟨a,e⟩,h⟩
end L2
namespace L2
open PySem PySem.Spec PyProof.Rows
section
variable {X:Cx} {C:Pc} {e f g:Expr} {ta tb tc:TQ} {pos:Pos} {j:Nat}
theorem qi:PE X (.Constant (.int i) j pos) (Up C (qC (.int i))):=oW uZ (λ_=>.int _)
theorem qs:PE X (.Constant (.str x) j pos) (Up C (qC (.str x))):=oW Cy (λ_=>.str _)
theorem qv (i:Nat) (hN:X.N[i]? = some x:=by rfl) (z:Y_ X.env.scope x:=by first|exact Or.inl rfl|exact Or.inr (Or.inl rfl)|exact Or.inr (Or.inr rfl)) (hd:(x == ("__debug__":Str))=false:=by decide) (n:(x == ("__classdict__":Str))=false:=by decide):PE X (.Name x pos) (Up C (Q9 i)):=aaa (pv i hN z hd n)
theorem qx (z:X.K=C.K) (n:PE X e (Up C ta)):PE X (.Subscript e (.Constant (.int i) j p) pos) (Up C (qIx ta (qC (.int i)))):=pB z n qi (λ_ _=>rfl)
theorem lc (h:Loc sc x:=by first|exact Or.inl rfl|exact Or.inr rfl):Loc sc x:=h
theorem bR.m {k n:Nat} {A:Around} (h:bR k A) (e:n<=k:=by first|decide|omega):bR n A:=h.mono e
theorem sr (h:PE X e (Up C ta)):gO X [.Return (some e) pos] (iV C (Ri (Rf ta))):=aL (bI (i_ h))
theorem a1 (h:PE X e (Up C ta)) (n:starEach [e] X.env=(false,eval e X.env)::starEach [] X.env:=by rfl):PA X [e] (iz C (lO ta H_)):=aN h dY n
theorem a2 (h:PE X e (Up C ta)) (B:PE X f (Up C tb)) (z:starEach [e,f] X.env=(false,eval e X.env)::starEach [f] X.env:=by rfl) (n:starEach [f] X.env=(false,eval f X.env)::starEach [] X.env:=by rfl):PA X [e,f] (iz C (lO ta (lO tb H_))):=aN h (a1 B n) z
theorem a3 (h:PE X e (Up C ta)) (I:PE X f (Up C tb)) (D:PE X g (Up C tc)) (B:starEach [e,f,g] X.env=(false,eval e X.env)::starEach [f,g] X.env:=by rfl) (z:starEach [f,g] X.env=(false,eval f X.env)::starEach [g] X.env:=by rfl) (n:starEach [g] X.env=(false,eval g X.env)::starEach [] X.env:=by rfl):PA X [e,f,g] (iz C (lO ta (lO tb (lO tc H_)))):=aN h (a2 I D z n) B
theorem aS {x:Str} {es:List Expr} {n:TAQ} (B:PA X es (iz C n)) (z:starEach (.Constant (.str x) j pos::es) X.env=(false,eval (.Constant (.str x) j pos) X.env)::starEach es X.env):PA X (.Constant (.str x) j pos::es) (iz C (lO (qC (.str x)) n)):=aN qs B z
end
section
variable {X:Cx} {pins:List (Addr × Obj)} {σ:St} {H:Hp} {s:Shared} {a:Addr} {y v:V} {u r:Value} {o:Option V} {A:Around} {E:Value->Shared->Prop} {kvs:List (Key × V)} {k:Key}
theorem Iv {Q:Value->Shared->Prop} (I:Inv X pins σ H s) (e:H a=some (.dK kvs)) (l:iZ kvs k=some v) (J:RelV (kV k) u) (h:∀n s',Inv X pins σ H s'->RelV v n->Q n s') :
  wpAny (model X.prog X.w) A (getItem (.ref a) u) Q E s:=by
 obtain ⟨z,hd,vs,D,dd⟩:=Fy I.hok e
 obtain ⟨n,O,B⟩:=oX.some_of (v:=v) (o:=valueAt vs k) (by rw [<-l];exact D.val k)
 exact wpAny_getItem_of (Ai J) dd.mapOf O (h n _ (I.tok _) B)
theorem Iw {Q:Unit->Shared->Prop} (I:Inv X pins σ H s) (e:H a=some (.dK kvs)) (l:kvs.length<sizeLine) (B:RelV (kV k) u) (D:RelV v r) (h:∀s',Inv X pins σ (upd H a (.dK (putK kvs k v))) s'->Q () s') :
  wpAny (model X.prog X.w) A (setItem (.ref a) u r) Q E s:=by
 obtain ⟨z,hd,vs,n,dd⟩:=Fy I.hok e
 have J:vs.length<=sizeLine:=by rw [<-n.length];exact z
 have U:(putK kvs k v).length<=sizeLine:=by have:=jT kvs k v;omega
 refine wpAny_setItem_pairs (hsz:=J) (Ai B) dd λh' Kf O=>h _ ?_
 have Y:∃q,h'.get? a=some q:=let ⟨q,_,_,hq,_⟩:=Kf;⟨q,hq⟩
 exact Fz I (by rw [e];exact True.intro) O Y (Ka U hd (n.put k D) Kf)
end
def Yb (i:Expr):Prop:=∀n z,subscripted i false n z=operate [n,z] (getItem n z)
theorem RZ {prog:Program} {w:World} {A:Around} {E:Value->Shared->Prop} {s:Shared} {env:Env} {z n:Expr} {pos:Pos} {T U:String} {Q:Value->Shared->Prop}
  (Z:typeLookup (.type T) "__getitem__"=pure (some (.builtin U))) (Y:Yb n)
  (h:wpAny (model prog w) A (eval z env) (λo I=>wpAny (model prog w) A (eval n env) (λi s₂=>s₂.TypeIs o T/\wpAny (model prog w) A (getItem o i) Q E s₂) E I) E s) :
  wpAny (model prog w) A (eval (.Subscript z n pos) env) Q E s:=by
 refine Subscript_ (yT h (λo I O=>yT O (λi s₂ B=>?_) λ_ _ x=>x) λ_ _ x=>x)
 obtain ⟨hT,B⟩:=B
 unfold subscriptTail
 refine zh ?_
 rw [getitemInPython_of_ne hT.not_modules]
 refine zh (wpAny_specialOf hT Z ?_)
 have fin:wpAny (model prog w) A (subscripted n false o i) (λr D=>wpAny (model prog w) A (letTemporaryGo z o r >>= λ_=>pure r) Q E D) E s₂:=by
  rw [Y o i]
  exact wpAny_operating (yT B (λr D J=>zh (wpAny_letTemporaryGo (zC J))) λ_ _ x=>x)
 first
  | exact zC (zh fin)
  | exact zh (zC (zh fin))
  | exact zh fin
section
variable {X:Cx} {C:Pc} {e o i value e1 e2 k:Expr} {pos pos' p0:Pos} {W:Hp} {K:PySem.W.Frag} {p:aQ} {σ:St} {F H:Hp} {td ty tv:TE} {te to tk:Hp->TQ}
def aaW (n ty:TE):TE:=λσ H Q=>n σ H λx H1=>ty σ H1 λy H2=>∃a kvs k v,x=.ref a/\H2 a=some (.dK kvs)/\y=kV k/\iZ kvs k=some v/\Q v H2
theorem R0 (Y:PE X o td) (hi:PE X i ty) (U:Yb i):PE X (.Subscript o i pos) (aaW td ty):=by
 intro pins s σ H Q I h
 refine RZ PySem.F.slot_dict_getitem.lookup U (bu (Y pins s σ H _ I h) λu D ⟨x,H1,I1,O,q1⟩=>bu (hi pins D σ H1 _ I1 q1) λiv s2 B=>?_)
 obtain ⟨y,H2,z,J,a,kvs,k,v,ex,g,Z,l,q2⟩:=B
 subst ex Z
 obtain rfl:u=Value.ref a:=O
 obtain ⟨_,_,vs,_,dd⟩:=Fy z.hok g
 exact ⟨dd.typeIs,Iv z g l J λw' s3 I3 n=>⟨v,H2,I3,n,q2⟩⟩
def aaX (B ty z:TE):TS:=λD σ H=>z σ H λv H1=>B σ H1 λx H2=>ty σ H2 λy n=>∃a kvs k,x=.ref a/\n a=some (.dK kvs)/\y=kV k/\kvs.length<sizeLine/\D.nx σ (upd n a (.dK (putK kvs k v)))
theorem R3 (ho:PE X o td) (hi:PE X i ty) (Z:PE X value tv) (hs:swapsWith value (some (.Subscript o i pos')) pos.line X.env=pure false) :
  PS X (.Assign [.Subscript o i pos'] value pos) (aaX td ty tv):=by
 intro pins s σ H D I h
 refine wpAny_Assign_Subscript (bu (Z pins s σ H _ I h) λr B ⟨v,H1,I1,U,q1⟩=>bu (ho pins B σ H1 _ I1 q1) λu z ⟨x,H2,I2,O,q2⟩=>bu (hi pins z σ H2 _ I2 q2) λiv s3 n=>?_) hs
 obtain ⟨y,H3,I3,J,a,kvs,k,ex,g,ey,l,Y⟩:=n
 subst ex ey
 obtain rfl:u=Value.ref a:=O
 exact Iw I3 g l J U λs4 I4=>⟨σ,_,I4,Y⟩
def Bq (D z B:Hp->TQ):lH:=λE W p=>D W p λev p1=>z W p1 λI p2=>B W p2 λJ n=>∃x kvs v k,MN (lk n ev)=some v/\lk n I=.atom (.ref x)/\W x=some (.dK kvs)/\kOf (lk n J)=some k/\kvs.length<sizeLine/\E.nx (upd W x (.dK (putK kvs k v))) n
theorem Yc (he:∀W,cH C W->PE X e (Up (C.add W) (te W))) (ho:∀W,cH C W->PE X o (Up (C.add W) (to W))) (hk:∀W,cH C W->PE X k (Up (C.add W) (tk W)))
  (hs:swapsWith e (some (.Subscript o k pos')) pos.line X.env=pure false:=by rfl):PS X (.Assign [.Subscript o k pos'] e pos) (j6 C (Bq te to tk)):=
 VS.mk (R3 (pH ho) (pH hk) (pH he) hs) λW p σ F H E rs ok B=>⟨W,ok,up1 rs B λe1 p1 v1 F1 H1 U s1 Li Im B=>
  ⟨W,ok,up1 U B λe2 p2 v2 F2 H2 O s2 D Aw B=>⟨W,ok,up1 O B λe3 p3 v3 F3 H3 z I n Z zq=>by
   obtain ⟨x,kvs,v,k,g1,g2,g3,g4,g5,q⟩:=zq
   rw [MT Z g4,dw (Aw.mono I n) g2,Gk ((Im.mono s2 D).mono I n) g1]
   obtain ⟨J,Y⟩:=z.Mg (us:=.dK (putK kvs k v)) ok g3 (.inr (.inl ⟨_,rfl⟩))
   exact ⟨x,_,_,rfl,z.wH ok g3,rfl,g5,_,p3,F3,J,Y,s1.trans (s2.trans I),q⟩⟩⟩⟩
def Np (W:Hp) (z n:TQ):TQ:=λp Q=>z p λe1 p1=>n p1 λe2 p2=>∃x kvs k v,lk p2 e1=.atom (.ref x)/\W x=some (.dK kvs)/\kOf (lk p2 e2)=some k/\iZ kvs k=some v/\Q (.fz (vd v)) p2
theorem Eh {I D:TQ} (hW:∀x kvs,W x=some (.dK kvs)->C.H0 x=some (.dK kvs)/\∀q∈C.bs,q.2≠x) (ho:PE X o (Up C I)) (hk:PE X k (Up C D)) (Z:Yb k:=by intro _ _;rfl):PE X (.Subscript o k pos) (Up C (Np W I D)):=
 QE.mk (R0 ho hk Z) λp σ F H R U Y=>rR U Y λe1 e2 p1 v1 v2 F1 H1 n O sh B z J=>by
  obtain ⟨x,kvs,k,v,h1,h2,h3,h4,q⟩:=J
  rw [MT z h3,dw B h1]
  obtain ⟨g1,g2⟩:=hW x kvs h2
  exact ⟨x,kvs,k,v,rfl,n.keep _ _ g1 g2,rfl,h4,bw n O sh (Ms v F1) q⟩
theorem Ui (ok:cH C W):∀x kvs,W x=some (.dK kvs)->(C.add W).H0 x=some (.dK kvs)/\∀q∈(C.add W).bs,q.2≠x:=λx _ h=>⟨gr h,ok.bs x _ h⟩
theorem aaY {as:List Sl} (h:∀q∈C.bs,(∃xs,as[q.1]? = some (.bor xs))/\∃n,C.H0 q.2=some (.lst n)):∀x kvs,C.H0 x=some (.dK kvs)->C.H0 x=some (.dK kvs)/\∀q∈C.bs,q.2≠x:=λx kvs g=>⟨g,λq B e=>by
 obtain ⟨_,n,z⟩:=h q B
 rw [e,g] at z;cases z⟩
def Nq (k:Key) (v:V):DY:=λW p Q=>∀a,W a=none->Q (.atom (.ref a)) (upd W a (.dK [(k,v)])) p
theorem Nr {x:Str} {v:V} (Z:PE X k (tC (.str x))) (O:PE X e (tC v)):PE X (.Dict [some k] [e] pos) (qm C (Nq (.inr x) v)):=λpins s σ H Q I J=>by
 obtain ⟨W,p,F,R,B,ok,U,Y⟩:=J
 exact QZ (Ke Z O QX) rfl rfl (by simp) (by show 1<=15;decide) pins s σ H Q I λd hd=>by
   refine ⟨aJ,[(.inr x,v)],rfl,by show 1<=15;decide,?_⟩
   rw [Qe]
   obtain ⟨f1,D,f3⟩:=B.free hd
   obtain ⟨n,z⟩:=(B.laid (o:=.dK [(.inr x,v)]) hd).Gi ok f1 D aJ (.inr (.inl ⟨_,rfl⟩)) f3
   exact Y _ _ _ _ _ _ n z (.refl _) (.atom _) (U d (gH D).1)
def Nt (I D:DY):DY:=λW p Q=>I W p λO U p1=>D U p1 λJ B p2=>∃z n,O=.atom (.ref z)/\J=.atom (.ref n)/\∀a,B a=none->Q (.atom (.ref a)) (upd B a (.lst [.ref z,.ref n])) p2
theorem Nu {t1 t2:DY} (h1:PE X e1 (qm C t1)) (h2:PE X e2 (qm C t2)) (hs:starEach [e1,e2] X.env=(false,eval e1 X.env)::starEach [e2] X.env:=by rfl) (hs2:starEach [e2] X.env=(false,eval e2 X.env)::starEach [] X.env:=by rfl) :
  PE X (.List [e1,e2] pos) (qm C (Nt t1 t2)):=λpins s σ H Q I zq=>by
 obtain ⟨W,p,F,R,rs,ok,Z,hq⟩:=zq
 refine JG (vm h1 (vm h2 JF hs2) hs) pins s σ H Q I ?_
 refine ⟨W,p,F,_,rs,ok,Z,λd1 u1 W1 p1 F1 H1 B O s1 r1 Z=>⟨W1,p1,F1,_,B,O,Z,λd2 u2 W2 p2 F2 H2 n J s2 r2 Y=>?_⟩⟩
 obtain ⟨v1,v2,g1,g2,U⟩:=Y
 subst g1 g2
 cases r1
 cases r2
 refine ⟨show 2<=sizeLine by rw [xn];omega,λa ha=>?_⟩
 obtain ⟨f1,f2,f3⟩:=n.free ha
 obtain ⟨z,D⟩:=(n.laid (o:=.lst [.ref v1,.ref v2]) ha).take J f1 f2 aJ f3
 exact hq _ _ _ _ _ _ z D (s1.trans s2) (.atom _) (U a (gH f2).1)
end
section
variable {X:Cx}
theorem Gp {M:Model} {A:Around} {E:Value->Shared->Prop} {K:PySem.W.Frag} {mg:Str->Option Value} {x:Str} {C D e:Addr} {B:Obj} {h:Heap} {g:Array GenState} {d:Drawn} {t:Nat} {os:OsState} {Q:Bool->Shared->Prop} {k:Bool} (I:K.In h)
  (c:uD K mg x D) (sub:PySem.W.subIn K (.ref C) (.ref D)=some k) (he:h.get? e=some B) (n:B.cls=.ref C) (U:Q k ⟨h,g,d,t,os⟩):wpAny M A (excMatches (.ref e) (.ref D)) Q E ⟨h,g,d,t,os⟩:=by
 obtain ⟨O,n0,J,q0,b0,d0,s0,u0,a0,c0,dd0,j0,j1,j2,j3,j5,f0,hD,hN,Y,T⟩:=(c.own I).obj
 have Z:(Value.ref D::O).contains (.type "BaseException")=true:=by rw [List.contains_cons,T.hasType F.excBase_ValueError.hasBase,Bool.or_true]
 have ft:=tc_notTuple
 have lk:=PySem.W.looks_subIn (M:=M) I sub
 unfold excMatches
 repeat (first|(with_reducible refine yZ he ?_;rw [n])|with_reducible refine yZ hD ?_|(with_reducible refine wpAny_isSubtype_exc hD ?_;rw [Z])|wp_step)
 refine lk A _ E ⟨h,g,d,t,os⟩ (λ_ _ z=>z) ?_
 cases k<;>(wp_walk;exact U)
inductive mL (X:Cx) (pins:List (Addr × Obj)) (Ca:Addr) (D:Ends) (σ:St) (H:Hp):List ExceptHandler->Prop
 | here {x:Str} {C:Addr} {np hpos:Pos} {b₀:Stmt} {suite:List Stmt} {r:List ExceptHandler}:uD X.K X.mg x C->Gl X x->(x == ("__debug__":Str))=false->PySem.W.subIn X.K (.ref Ca) (.ref C)=some true->(∀a:Addr,∃th,gO (X.suite pins (X.A.mark (some (.ref a)))) (b₀::suite) th/\th D σ H)->mL X pins Ca D σ H (.ExceptHandler (some (.Name x np)) none (b₀::suite) hpos::r)
 | next {x:Str} {C:Addr} {np hpos:Pos} {b:List Stmt} {r:List ExceptHandler}:uD X.K X.mg x C->Gl X x->(x == ("__debug__":Str))=false->PySem.W.subIn X.K (.ref Ca) (.ref C)=some false->mL X pins Ca D σ H r->mL X pins Ca D σ H (.ExceptHandler (some (.Name x np)) none b hpos::r)
variable {pins:List (Addr × Obj)} {σ:St} {H:Hp} {s:Shared} {E:Value->Shared->Prop} {A:Around}
theorem mL.ok {Ca a T:Addr} {D:Ends} {hl:List ExceptHandler} {O oT:Obj} {vs ts:Array Value} {fl:Value} (h:mL X pins Ca D σ H hl) (hs:X.stack=X.env::X.outer) (hL:X.env.frame=some X.env.locals) (hx:X.ex=[]) (I:Inv X pins σ H s) (U:s.heap.get? a=some O) (hc:O.cls=.ref Ca) (b3:O.data=.fields vs) (b4:vs[1]? = some (.ref T)) (c1:s.heap.get? T=some oT) (c2:oT.data=.fields ts) (c3:ts[3]? = some fl) (nf:T ∉ frs X.stack)
  (fT:X.s₀.heap.get? T=none/\H T=none/\T≠X.env.locals/\(∀y c,X.env.cells.lookup y=some c->c≠T)/\∀p∈X.pn++pins,p.1≠T):wpAny (model X.prog X.w) X.A (handleBy (.ref a) X.env hl) (SP X pins D) X.xe s:=by
 have B:=I.suite (A:=X.A.mark (some (.ref a))) rfl
 induction h with
 | next c hg hdb sub _ ih=>
  refine wpAny_handleBy_cons (codeAny_handlers_test ?_) (by intro q;cases q)
  refine jo (X:=X.suite pins (X.A.mark (some (.ref a)))) B hg c.m ?_ hdb
  exact Gp (K:=X.K) B.q_ c sub U hc ih
 | here c hg hdb sub g=>
  refine wpAny_handleBy_cons (codeAny_handlers_test ?_) (by intro q;cases q)
  refine jo (X:=X.suite pins (X.A.mark (some (.ref a)))) B hg c.m ?_ hdb
  refine Gp (K:=X.K) B.q_ c sub U hc ?_
  refine codeAny_handlers_suite ?_
  refine pZ U b3 b4 c1 c2 c3 λh5 k5 zq=>?_
  obtain ⟨oT5,ts5,d1,d2,d3⟩:=zq
  have J5:=rQ (t':=s.toks) hs hL hx I (An k5 nf) (λb hb=>by rw [zA.mp hb];exact fT)
  have K5:=J5.suite (A:=X.A.mark (some (.ref a))) rfl
  obtain ⟨th,hh,ht⟩:=g a
  refine yT (hh [] _ _ _ D K5 ht) (λf s8 q=>?_) λ_ _ z=>z.elim
  cases f with
  | ret u=>
   obtain ⟨v,n,Z,Y,r,J⟩:=q
   exact ⟨v,n,Z,Y.FN I.ok.hd I.ok.frames,r,J⟩
  | _=>
   obtain ⟨n,Z,Y,J⟩:=q
   exact ⟨n,Z,Y.FN I.ok.hd I.ok.frames,J⟩
theorem Gq {body:List Stmt} {h₀:ExceptHandler} {n:List ExceptHandler} {pos:Pos} {D:Ends} {G:Addr->St->Hp->Prop}
  (Y:X.stack=X.env::X.outer) (hL:X.env.frame=some X.env.locals) (hx:X.ex=[]) (I:Inv X pins σ H s)
  (B:∀E:Value->Shared->Prop,pq (X.held pins E) G->∃tb,gO (X.held pins E) body tb/\tb D σ H)
  (hG:∀(Ca:Addr) (σ':St) (H':Hp),G Ca σ' H'->mL X pins Ca D σ' H' (h₀::n)):wpAny (model X.prog X.w) X.A (exec (.Try body (h₀::n) [] [] pos) X.env) (SP X pins D) X.xe s:=by
 refine wpAny_Try_except ?_
 have lk:pq (X.held pins (λe s₁=>wpAny (model X.prog X.w) X.A (noteFrame e X.env) (λ_ s₂=>wpAny (model X.prog X.w) X.A (setFlight e none) (λ_ Z=>wpAny (model X.prog X.w) X.A (handleBy e X.env (h₀::n)) (SP X pins D) X.xe Z) X.xe s₂) X.xe s₁)) G:=by
  intro agd σ1 H1 s1 H2 s2 a Ca I1 I2 tr g0
  have g:=hG Ca σ1 H2 g0
  have J1:=I1.less.pA
  have J2:=I2.less.pA
  obtain ⟨t0,t1,oe,vs,T,oT,ts,a1,a2,a3,a4,a5,a6,a7,a8,a9,a10⟩:=tr
  have O:∀{σ':St} {H':Hp} {s':Shared},Inv X pins σ' H' s'->∀b,s'.heap.get? b=none->X.s₀.heap.get? b=none/\H' b=none/\b≠X.env.locals/\(∀y c,X.env.cells.lookup y=some c->c≠b)/\∀p∈X.pn++pins,p.1≠b:=λ{σ' H' s'} J b z=>by
   refine ⟨?_,?_,λy=>?_,λy c e y'=>?_,λp hp y=>?_⟩
   ·cases q:X.s₀.heap.get? b with
    | none=>rfl
    | some o=>obtain ⟨_,e⟩:=J.base.there b o q (by show b ∉ X.ex;rw [hx];intro z;cases z);rw [z] at e;cases e
   ·cases q:H' b with
    | none=>rfl
    | some o=>obtain ⟨_,e⟩:=(J.hok _ _ q).ex;rw [z] at e;cases e
   ·obtain ⟨m,⟨o,_,_,ho,_⟩,_⟩:=J.loc
    rw [<-show b=_ from y,z] at ho;cases ho
   ·obtain ⟨v,o,ho,_⟩:=J.cell y c e
    rw [y',z] at ho;cases ho
   ·have:=(J.pin p hp).1
    rw [y,z] at this;cases this
  have fa:=O J1 a t1
  have fT:=O J1 T a6
  show wpAny (model X.prog X.w) X.A (noteFrame (.ref a) X.env) _ X.xe s2
  refine uE (base:=X.base) (outer:=X.outer) (by rw [<-Y];exact I.ok.frames) (by rw [<-Y];exact J2.stack) hL a1 a3 a4 a5 a8 a9 a10 λh3 n3 zq=>?_
  obtain ⟨oe',vs',T',oT',ts',fl,b1,b2,b3,b4,b5,b6,b7,b8,b9⟩:=zq
  have J3:=rQ (t':=s2.toks) Y hL hx J2 (by rw [Y];exact n3) (λb B=>by
   rcases zr.mp B with rfl|B
   ·exact ⟨fa.1,t0,fa.2.2⟩
   ·rw [zA.mp B];exact ⟨fT.1,a7,fT.2.2⟩)
  have fT':X.s₀.heap.get? T'=none/\H2 T'=none/\T'≠X.env.locals/\(∀y c,X.env.cells.lookup y=some c->c≠T')/\∀p∈X.pn++pins,p.1≠T':=by
   rcases b6 with z|z
   ·exact O J2 T' z
   ·rw [z];exact ⟨fT.1,a7,fT.2.2⟩
  have nf3:T' ∉ frs X.stack:=λz=>by
   obtain ⟨_,o,q,nf⟩:=J3.stack.mem z
   rw [show h3.get? T'=some oT' from b7] at q;cases q
   exact nf _ b8
  refine pZ (s:={ s2 with heap:=h3 }) b1 b3 b4 b7 b8 b9 λh4 k4 zq=>?_
  obtain ⟨oT4,ts4,c1,c2,c3⟩:=zq
  have J4:=rQ (t':=s2.toks) Y hL hx J3 (An k4 nf3) (λb B=>by rw [zA.mp B];exact fT')
  have e4:h4.get? a=some oe':=k4 a oe' b1 (Ne.symm b5)
  exact g.ok Y hL hx J4 e4 (by rw [b2,a2]) b3 b4 c1 c2 c3 nf3 fT'
 obtain ⟨tb,hb',hq⟩:=B _ lk
 refine yT (hb' [] s σ H D I.held hq) (λf s1 q=>?_) λ_ _ z=>z
 cases f with
 | next=>
  obtain ⟨σ',H',U,q⟩:=q
  exact xI ⟨σ',H',U.pA,q⟩
 | brk=>obtain ⟨σ',H',U,q⟩:=q;exact ⟨σ',H',U.pA,q⟩
 | cont=>obtain ⟨σ',H',U,q⟩:=q;exact ⟨σ',H',U.pA,q⟩
 | ret u=>obtain ⟨v,σ',H',U,r,q⟩:=q;exact ⟨v,σ',H',U.pA,r,q⟩
end
section
variable {X:Cx} {C:Pc} {pos np hpos:Pos} {x:Str}
inductive HL (X:Cx) (C:Pc):List ExceptHandler->List (Addr × iU)->Prop
 | nil:HL X C [] []
 | cons {x:Str} {D:Addr} {np hpos:Pos} {b₀:Stmt} {suite:List Stmt} {r:List ExceptHandler} {th:iU} {l:List (Addr × iU)} (c:uD X.K X.mg x D) (hh:∀(F0:Hp) (pins:List (Addr × Obj)) (A:Around),gO (X.suite pins A) (b₀::suite) (iV (C.at F0) th)) (hr:HL X C r l) (hg:Gl X x:=by rfl) (hdb:(x == ("__debug__":Str))=false:=by decide):HL X C (.ExceptHandler (some (.Name x np)) none (b₀::suite) hpos::r) ((D,th)::l)
def Br (K:PySem.W.Frag) (n:Addr) (E:jb) (p:aQ):List (Addr × iU)->Prop
 | []=>False
 | (D,th)::r=>∃k,PySem.W.subIn K (.ref n) (.ref D)=some k/\if k=true then th E p else Br K n E p r
def Nv (K:PySem.W.Frag) (l:List (Addr × iU)) (n:(Addr->aQ->Prop)->iU):iU:=λE p=>n (λz p1=>Br K z E p1 l) E p
theorem HL.caught {F0:Hp} {n:List (Addr × Obj)} {J:Addr} {D:Ends} {z:St} {H:Hp} {E:jb} {p:aQ} (I:∀th,th E p->iV (C.at F0) th D z H):∀{B:List ExceptHandler} {l:List (Addr × iU)},HL X C B l->Br X.K J E p l->mL X n J D z H B
 | _,_,.nil,h=>h.elim
 | _,_,.cons c hh r hg hdb,⟨k,sub,h⟩=>by
  cases k with
  | true=>exact .here c hg hdb sub λa=>⟨_,hh F0 n _,I _ h⟩
  | false=>exact .next c hg hdb sub (HL.caught I r h)
theorem Yd {body:List Stmt} {h₀:ExceptHandler} {hl:List ExceptHandler} {l:List (Addr × iU)} {tb:(Addr->aQ->Prop)->iU}
  (hb:∀(F0:Hp) (pins:List (Addr × Obj)) (E:Value->Shared->Prop) (XE:Addr->aQ->Prop),pq (X.held pins E) (GX (C.at F0) XE)->gO (X.held pins E) body (iV (C.at F0) (tb XE)))
  (hh:HL X C (h₀::hl) l) (hs:X.stack=X.env::X.outer:=by rfl) (hL:X.env.frame=some X.env.locals:=by rfl) (hx:X.ex=[]:=by rfl) :
  PS X (.Try body (h₀::hl) [] [] pos) (iV C (Nv X.K l tb)):=by
 intro pins s σ H De I ⟨p,F,E,Z,ht,le⟩
 have un:∀{F2:Hp},aX F F2->(E.dn (C.at F) F2).Le (E.dn C F):=λ{F2} z=>⟨λn H1 B=>by obtain ⟨p1,U,O,J,q1⟩:=B;exact ⟨p1,U,(Z.Ru O).1,z.trans J,q1⟩,λv H1 B=>by obtain ⟨r,p1,n,U,O,J,rr,q1⟩:=B;exact ⟨r,p1,n,U,(Z.Ru O).1,z.trans J,by cases r<;>exact rr,q1⟩,λn H1 B=>by obtain ⟨p1,U,O,J,q1⟩:=B;exact ⟨p1,U,(Z.Ru O).1,z.trans J,q1⟩,λn H1 B=>by obtain ⟨p1,U,O,J,q1⟩:=B;exact ⟨p1,U,(Z.Ru O).1,z.trans J,q1⟩⟩
 refine bu (Gq (D:=E.dn C F) (G:=GX (C.at F) λCl p1=>Br X.K Cl E p1 l) hs hL hx I (λE' lk=>⟨_,hb F pins E' _ lk,p,F,E,Z.at,ht,un (.refl _)⟩) λCa σ' H' B=>by obtain ⟨p',F',Y,hp⟩:=B;exact hh.caught (F0:=F) (λth h=>⟨p',F',E,Y,h,un Y.ext⟩) hp) λ_ _ q=>q.le le
theorem Ye {body:List Stmt} {h₀:ExceptHandler} {D:List ExceptHandler} {t:lH} (J:∀(pins:List (Addr × Obj)) (E:Value->Shared->Prop),gO (X.held pins E) body (j6 C t))
  (B:X.stack=X.env::X.outer:=by rfl) (hL:X.env.frame=some X.env.locals:=by rfl) (n:X.ex=[]:=by rfl):PS X (.Try body (h₀::D) [] [] pos) (j6 C t):=λpins s σ H U I h=>
 Gq (G:=λ_ _ _=>False) B hL n I (λO lk=>⟨_,J pins O,h⟩) (λ_ _ _ z=>z.elim)
end
theorem rangeSize_down (a b:Int):Builtin.Range.rangeSize a b (-1)=((a - b).toNat:Int):=by
 unfold Builtin.Range.rangeSize
 simp only [show ¬((-1:Int) > 0) by decide,if_false]
 split<;>simp<;>omega
section
variable {X:Cx} {C:Pc} {cR:TAQ} {K:PySem.W.Frag} {F:Hp} {a b c tg:Expr} {p1 pos:Pos}
def aaZ (n:TA):TI:=λσ H R=>n σ H λvs H1=>∃i j:Int,vs=[.int i,.int j,.int (-1)]/\(-(2 ^ 62)<=i/\i<2 ^ 62/\-(2 ^ 62)<=j/\j<2 ^ 62)/\R (VB i (-1) (i - j).toNat) H1
theorem Iz {D:TA} (hg:Gl X "range") (hm:X.mg "range"=none) (ha:PA X [a,b,c] D) (Z:starEach [a,b,c] X.env=[(false,eval a X.env),(false,eval b X.env),(false,eval c X.env)]:=by rfl) (n:starEach [b,c] X.env=[(false,eval b X.env),(false,eval c X.env)]:=by rfl) :
  PI X tg (.Call (.Name "range" p1) [a,b,c] [] pos) (aaZ D):=by
 intro pins s σ H R I h
 refine Call_ (gD I hg hm boot_range (zX (bu (ha pos pins s σ H _ I h) λus B J=>?_) (by rw [Z,n]) (by rw [n];rfl)))
 obtain ⟨vs,H1,I1,U,q1⟩:=J
 obtain ⟨i,j,e,⟨i0,i1,j0,j1⟩,q⟩:=q1
 subst e
 cases U with
 | cons r rr=>
  cases rr with
  | cons r' rr=>
   cases rr with
   | cons r'' rr=>
    cases rr
    obtain ⟨t,rfl⟩:=r
    obtain ⟨O,rfl⟩:=r'
    obtain ⟨z,rfl⟩:=r''
    refine call_range_3 (by decide) ?_ (.inl (PyProof.noPylong_of_log2 (by decide)))
    have I2:Inv X pins σ H1 { B with heap:=B.heap.push { cls:=.type "range",data:=.fields #[.int i t,.int j O,.int (-1) z] },toks:=B.toks }:=I1.kept λb o e=>zu _ e
    have sm:Builtin.Range.small i j (-1)=true:=by
     unfold Builtin.Range.small
     rw [rangeSize_down]
     simp only [Builtin.Range.rangeFitsLong,yo,Bool.or_eq_true,yl,beq_iff_eq,show ¬((-1:Int) > 0) by decide,if_false]
     omega
    have e:=rangeSize_down i j
    refine wpAny_pyIter_range (IsRange.new ..) sm ?_
    rw [e]
    exact Hq I2 (λY=>lW Y i (-1) (i - j).toNat) (rD (zD _ rfl)) q
theorem aey {es:List Ev} {e f g:Ev} {vs:List V} {p:aQ} {n:St} {F:Hp} (h:nJ C.K p n F es vs) (z:es=[e,f,g]):∃v w x,vs=[v,w,x]/\jL C.K p n F e v/\jL C.K p n F f w/\jL C.K p n F g x:=by
 subst z
 cases h with
 | cons h1 t=>cases t with
  | cons h2 t=>cases t with
   | cons h3 t=>cases t;exact ⟨_,_,_,rfl,h1,h2,h3⟩
def Yg (n:TAQ):t6:=λp Q=>n p λes p1=>∃e f g i j,es=[e,f,g]/\lk p1 e=.int i/\lk p1 f=.int j/\lk p1 g=.int (-1)/\(-(2 ^ 62)<=i/\i<2 ^ 62/\-(2 ^ 62)<=j/\j<2 ^ 62)/\Q (i - j).toNat (λk=>.int (i - k)) p1
theorem Ny (hg:Gl X "range") (hm:X.mg "range"=none) (ha:PA X [a,b,c] (iz C cR)) (hs:starEach [a,b,c] X.env=[(false,eval a X.env),(false,eval b X.env),(false,eval c X.env)]:=by rfl) (B:starEach [b,c] X.env=[(false,eval b X.env),(false,eval c X.env)]:=by rfl):PI X tg (.Call (.Name "range" p1) [a,b,c] [] pos) (uH C (Yg cR)):=
 QI.mk (Iz hg hm ha hs B) λp σ F H R Y Z=>eY Y Z λes1 p1 O F1 H1 z U sh D J=>by
  obtain ⟨e1,e2,e3,i,j,h0,h1,h2,h3,h4,q⟩:=J
  obtain ⟨v,w,x,rfl,er,I,n⟩:=aey D h0
  exact ⟨i,j,by rw [aY er h1,aY I h2,aY n h3],h4,_,_,p1,F1,z,U,sh,vN λ_=>by omega,q⟩
theorem aa0 {B:TQ} (U:PE X a (Up C B)):PE X (.UnaryOp .USub a pos) (Up C (q1 (λi=>.int (-i)) B)):=
 QE.mk (Tt Jy U) λp σ F H R J O=>up1 J O λe1 p1 Y Z H1 n I sh z D=>by obtain ⟨i,h1,q⟩:=D;exact ⟨i,aY z h1,bw n I sh (.int _) q⟩
end
section
variable {X:Cx} {C:Pc} {a b:Expr} {ta tb:TQ} {pos:Pos}
theorem Yh (ha:PE X a (Up C ta)) (hb:PE X b (Up C tb)) (hm:behindInMarks .In b=false:=by rfl):PT X (.Compare a [.In] [b] pos) (gB C (RW (λk=>k) D.tup ta tb)):=by
 have ho:iB X (compareOp .In) (λu v H Q=>∃(x:Str) (l:Addr) (ts:List Str),u=.str x/\v=.ref l/\H l=some (.tup (ts.map V.str))/\Q (.bl (ts.any (· == x))) H):=λpins s σ H u v U O Q I r1 r2 z=>by
  obtain ⟨x,l,ts,e1,e2,h,q⟩:=z
  subst e1 e2
  obtain ⟨t1,rfl⟩:=r1
  obtain rfl:=r2
  obtain ⟨its,Z,hl,_⟩:=I.tuple (Cr.of h)
  exact in_tuple_strs hl (mK Z) ⟨.bl _,H,I,rfl,q⟩
 exact QT.mk (fY ho ha hb hm) λp σ F H R rs ht=>rR rs ht λe1 e2 p1 U O F1 H1 n Y sh J B z=>by
  obtain ⟨x,ts,h1,h2,q⟩:=z
  obtain ⟨l,vs,rfl,g,r⟩:=vI n B h2
  rw [r.strs] at g
  exact ⟨x,l,ts,bZ J h1,rfl,g,_,rfl,p1,F1,n,Y,sh,q⟩
end
section
variable {X:Cx} {C:Pc} {e e1 e2:Expr} {pos pos':Pos} {t1 t2:DY} {t:lH}
def vUp (t:Hp->TQ):DY:=λW p Q=>t W p λe p1=>∃d,e=.fz d/\Q d W p1
theorem aa1 {t:Hp->TQ} (h:∀W,cH C W->PE X e (Up (C.add W) (t W))):PE X e (qm C (vUp t)):=λpins s σ H Q I n=>by
 obtain ⟨W,p,F,R,O,ok,U,Y⟩:=n
 exact pH h pins s σ H Q I ⟨W,ok,up1 O U λe1 p1 D F1 H1 z J sh B n=>by obtain ⟨d,Z,q⟩:=n;subst Z;exact Y d D W p1 F1 H1 z ok J B q⟩
def NB (I D:DY) (t:lH):lH:=λE W p=>I W p λz J p1=>D J p1 λn B p2=>xM z/\xM n/\if Bg z n=true then E.nx B p2 else t E B p2
theorem Ei {a:List Stmt} (hK:X.K=C.K) (hu:X.A.units+64<cLine) (h1:PE X e1 (qm C t1)) (h2:PE X e2 (qm C t2)) (ha:gO X a (j6 C t)):PS X (.If (.Compare e1 [.NotEq] [e2] pos') a [] pos) (j6 C (NB t1 t2 t)):=
 VS.mk (Js (fY (Ge hK hu) h1 h2 (gF _)) ha u6) λW p σ F H E rs ok U=>⟨W,p,F,_,rs,ok,U,λB v1 W1 p1 F1 H1 J O s1 r1 U=>⟨W1,p1,F1,_,J,O,U,λY v2 D p2 Z H2 n z I r2 zq=>by
  obtain ⟨o1,o2,q⟩:=zq
  refine ⟨B,Y,qb (C:=C.add D) (e:=.fz B) n (show jL _ p2 σ Z (.fz B) v1 from r1.mono I),qb (C:=C.add D) (e:=.fz Y) n r2,o1,o2,_,rfl,?_⟩
  cases hd:Bg B Y with
  | true=>rw [hd,zm rfl] at q;exact ⟨D,p2,Z,n,z,s1.trans I,q⟩
  | false=>rw [hd,zi (by decide)] at q;exact ⟨D,p2,Z,E,n,z,q,vW (s1.trans I)⟩⟩⟩
end
end L2
namespace M
def val (b:Int) (ds:List Int):Int:=ds.foldl (λn d=>n * b+d) 0
theorem lz (b:Int):∀(ds:List Int) (a:Int),ds.foldl (λn d=>n * b+d) a=a * b ^ ds.length+val b ds
 | [],a=>by simp [val]
 | d::r,a=>by
  have h1:=lz b r (a * b+d)
  have h2:=lz b r (0 * b+d)
  show r.foldl _ (a * b+d)=a * b ^ (r.length+1)+r.foldl _ (0 * b+d)
  rw [h1,h2,zJ]
  generalize b ^ r.length=p
  generalize val b r=v
  rw [Int.add_mul,Int.add_mul,xH a b p,yG b p]
  omega
theorem fB (b d:Int) (r:List Int):val b (d::r)=d * b ^ r.length+val b r:=by
 show r.foldl _ (0 * b+d)=_
 rw [lz]
 simp
theorem jj (b d:Int) (xs:List Int):val b (xs++[d])=val b xs * b+d:=by
 unfold val
 rw [List.foldl_append]
 rfl
def terms (b:Int):List Int->List Int
 | []=>[]
 | d::r=>d * b ^ r.length::terms b r
def le (b:Int):List Int->Int
 | []=>0
 | d::r=>d+b * le b r
theorem val_rev (b:Int):∀n:List Int,val b n.reverse=le b n
 | []=>rfl
 | d::r=>by
  rw [yr,jj,val_rev b r]
  show le b r * b+d=d+b * le b r
  rw [yG];omega
theorem v8 (b x:Int):∀n:List Int,le b (n++[x])=le b n+x * b ^ n.length
 | []=>by simp [le]
 | d::r=>by
  show d+b * le b (r++[x])=d+b * le b r+x * b ^ (r.length+1)
  rw [v8 b x r,zJ,Int.mul_add]
  generalize b ^ r.length=p
  have:b * (x * p)=x * (p * b):=by rw [yG p b,<-xH,<-xH,yG b x]
  omega
theorem aC {b:Int} (h:0<b) (n:Nat):0<b ^ n:=Int.pow_pos h
theorem jy {b:Int} (h:2<=b):∀n:Nat,(2:Int) ^ n<=b ^ n
 | 0=>by simp
 | n+1=>by
  rw [zJ,zJ]
  have q:=jy h n
  have p:=aC (show (0:Int)<2 by decide) n
  exact yK q h (by decide) (by omega)
theorem uM {m n:Nat} (h:m<=n):(2:Int) ^ m<=2 ^ n:=by
 obtain ⟨k,rfl⟩:=Nat.exists_eq_add_of_le h
 rw [xz]
 have p:=aC (show (0:Int)<2 by decide) m
 have q:=aC (show (0:Int)<2 by decide) k
 have:(2:Int) ^ m * 1<=2 ^ m * 2 ^ k:=yp (by omega) (by omega)
 omega
structure gJ (b n:Int) (ds:List Int):Prop where
 jH:∀d∈ds,0<=d/\d<b
 val:val b ds=n
 ne:ds≠[]
 hd:ds.length=1\/ds.head?≠some 0
theorem NK {b:Int} (h:0<=b):∀{rs:List Int},(∀d∈rs,0<=d/\d<b)->0<=le b rs
 | [],_=>yx _
 | d::r,hr=>by
  have h1:=(hr d zo).1
  have h2:=NK h (rs:=r) λx n=>hr x (zp _ n)
  have:=Int.mul_nonneg h h2
  show 0<=d+b * le b r
  omega
structure IK (b n:Int) (rs:List Int) (left:Int):Prop where
 b2:2<=b
 jH:∀d∈rs,0<=d/\d<b
 l0:0<=left
 sum:n=le b rs+left * b ^ rs.length
 pos:rs=[]\/0<left
theorem IK.start {b n:Int} (B:2<=b) (z:0<=n):IK b n [] n:=⟨B,λd hd=>absurd hd yJ,z,by simp [le],.inl rfl⟩
theorem IK.turn {b n z:Int} {rs:List Int} (g:IK b n rs z) (h:b<=z):IK b n (rs++[z % b]) (z / b) where
 b2:=g.b2
 jH:=λd hd=>by
  have B:=g.b2
  rcases zN.mp hd with hd|hd
  ·exact g.jH d hd
  ·rw [zA] at hd
   subst hd
   exact ⟨yN _ (by omega),yA _ (by omega)⟩
 l0:=Int.ediv_nonneg g.l0 (by have:=g.b2;omega)
 sum:=by
  have h1:=g.sum
  have h2:=Int.mul_ediv_add_emod z b
  rw [v8,zj,yd,zJ,h1]
  generalize b ^ rs.length=p at *
  have e:z * p=(z % b) * p+(z / b) * (p * b):=by
   have:z * p=(b * (z / b)+z % b) * p:=by rw [h2]
   rw [this,Int.add_mul,yG p b,<-xH,yG (z / b) b]
   omega
  omega
 pos:=.inr (by
  have B:=g.b2
  have:=x8 (show 0<b by omega) h
  rw [Int.ediv_self (by omega)] at this
  omega)
theorem IK.len {b n B:Int} {rs:List Int} (g:IK b n rs B) (I:n<2 ^ 4000):rs.length<4000:=by
 rcases g.pos with z|z
 ·rw [z];decide
 have h1:=g.sum
 have D:=g.b2
 have h2:=NK (by omega) g.jH
 have p:=aC (show 0<b by omega) rs.length
 have O:1 * b ^ rs.length<=B * b ^ rs.length:=zB (by omega) (by omega)
 have J:=jy D rs.length
 by_cases z:rs.length<4000
 ·exact z
 ·have:=uM (show 4000<=rs.length by omega)
  generalize (2:Int) ^ 4000=q at *
  omega
theorem IK.done {b n B:Int} {rs:List Int} (g:IK b n rs B) (h:B<b):gJ b n (rs++[B]).reverse where
 jH:=λd hd=>by
  rcases zN.mp (yi.mp hd) with hd|hd
  ·exact g.jH d hd
  ·rw [zA] at hd;subst hd;exact ⟨g.l0,h⟩
 val:=by rw [val_rev,v8];exact g.sum.symm
 ne:=by simp
 hd:=by
  rcases g.pos with z|z
  ·exact .inl (by rw [z];rfl)
  ·refine .inr ?_
   rw [yI]
   simp
   omega
theorem val_mod {b:Int} {xs:List Int} {d:Int} (h:0<=d/\d<b):val b (xs++[d]) % b=d/\val b (xs++[d]) / b=val b xs:=by
 rw [jj]
 have n:0<b:=by omega
 constructor
 ·rw [xc,Int.add_mul_emod_self_right,Int.emod_eq_of_lt h.1 h.2]
 ·rw [xc,Int.add_mul_ediv_right _ _ (by omega),Int.ediv_eq_zero_of_lt h.1 h.2,xE]
theorem j7 {b:Int} (n:0<=b) {xs:List Int} (h:∀d∈xs,0<=d/\d<b):0<=val b xs:=by
 have:=NK n (rs:=xs.reverse) λd hd=>h d (yi.mp hd)
 rw [<-val_rev,List.reverse_reverse] at this
 exact this
theorem gJ.uniq {b:Int} (hb:2<=b):∀(k:Nat) {n:Int} {xs ys:List Int},xs.length=k->gJ b n xs->gJ b n ys->xs=ys:=by
 intro k
 induction k with
 | zero=>intro n xs ys hk B _;exact absurd (List.length_eq_zero_iff.mp hk) B.ne
 | succ k ih=>
  intro n xs ys hk B D
  have ex:=yL B.ne
  have ey:=yL D.ne
  generalize xs.dropLast=us at ex
  generalize ys.dropLast=vs at ey
  generalize xs.getLast B.ne=p at ex
  generalize ys.getLast D.ne=q at ey
  subst ex ey
  have hp:=B.jH p (by simp)
  have hq:=D.jH q (by simp)
  have Y:=val_mod (xs:=us) hp
  have U:=val_mod (xs:=vs) hq
  have e1:=B.val
  have e2:=D.val
  rw [e1] at Y
  rw [e2] at U
  have epq:p=q:=Y.1.symm.trans U.1
  have ev:M.val b us=M.val b vs:=Y.2.symm.trans U.2
  subst epq
  have O:∀(ws:List Int),(ws++[p]).length=1\/(ws++[p]).head?≠some 0->(∀d∈ws,0<=d/\d<b)->ws≠[]->0<M.val b ws:=by
   intro ws h hr Z
   match ws,Z with
   | w::r,_=>
    have h0:w≠0:=by
     rcases h with z|z
     ·simp at z
     ·simpa using z
    have hw':=hr w zo
    rw [fB]
    have p1:=aC (show 0<b by omega) r.length
    have p2:=j7 (show 0<=b by omega) (xs:=r) λd hd=>hr d (zp _ hd)
    have p3:1 * b ^ r.length<=w * b ^ r.length:=zB (by omega) (by omega)
    omega
  have ru:∀d∈us,0<=d/\d<b:=λd hd=>B.jH d (yM _ hd)
  have rv:∀d∈vs,0<=d/\d<b:=λd hd=>D.jH d (yM _ hd)
  by_cases J:us=[]
  ·by_cases I:vs=[]
   ·rw [J,I]
   ·have:=O vs D.hd rv I
    rw [J] at ev
    have z:M.val b []=0:=rfl
    omega
  ·by_cases I:vs=[]
   ·have:=O us B.hd ru J
    rw [I] at ev
    have z:M.val b []=0:=rfl
    omega
   ·have lu:us.length=k:=by rw [zj,yd] at hk;omega
    have hd':∀(ws:List Int),ws≠[]->((ws++[p]).length=1\/(ws++[p]).head?≠some 0)->ws.length=1\/ws.head?≠some 0:=by
     intro ws Z h
     match ws,Z with
     | w::r,_=>
      refine .inr ?_
      rcases h with z|z
      ·simp at z
      ·simpa using z
    rw [ih lu ⟨ru,rfl,J,hd' us J B.hd⟩ ⟨rv,ev.symm,I,hd' vs I D.hd⟩]
theorem gJ.pos {b n:Int} {ds:List Int} (d:gJ b n ds) (B:0<n):ds.head?≠some 0:=by
 rcases d.hd with z|z
 ·match ds,z,d with
  | [x],_,d=>
   have h:(0:Int) * b+x=n:=d.val
   intro e
   have:x=0:=by simpa using e
   omega
 ·exact z
def fgF (b : Nat) : Nat → Nat → List Int
  | 0, n => [(n : Int)]
  | f + 1, n => if n < b ∨ b < 2 then [(n : Int)] else fgF b f (n / b) ++ [((n % b : Nat) : Int)]
theorem fgF_eq {b : Nat} (hb : 2 ≤ b) : ∀ {f n : Nat}, n ≤ f → fgF b f n = fgF b n n := by
  have : ∀ f g n : Nat, n ≤ f → n ≤ g → fgF b f n = fgF b g n := by
    intro f
    induction f with
    | zero => 
      intro g n h _
      cases g with
      | zero => rfl
      | succ g => exact (if_pos (by omega)).symm
    | succ f ih =>
      intro g n h k
      cases g with
      | zero => exact if_pos (by omega)
      | succ g =>
        have := Nat.div_le_self n b
        by_cases h : n < b ∨ b < 2
        · exact (if_pos h).trans (if_pos h).symm
        · have hlt : n / b < n := Nat.div_lt_self (by omega) (by omega)
          exact (if_neg h).trans ((congrArg (· ++ _) (ih g (n / b) (by omega) (by omega))).trans (if_neg h).symm)
  exact fun {f n} h => this f n n h (Nat.le_refl _)
def Uj (b n : Nat) : List Int := fgF b n n
theorem fgN_lt {b n : Nat} (h : n < b ∨ b < 2) : Uj b n = [(n : Int)] := by
  cases n with
  | zero => rfl
  | succ n => exact if_pos h
theorem fgN_ge {b n : Nat} (h : ¬ (n < b ∨ b < 2)) : Uj b n = Uj b (n / b) ++ [((n % b : Nat) : Int)] := by
  cases n with
  | zero => exact absurd (by omega) h
  | succ n =>
    have hlt : (n + 1) / b < n + 1 := Nat.div_lt_self (by omega) (by omega)
    exact (if_neg h).trans (congrArg (· ++ _) (fgF_eq (by omega) (show (n + 1) / b ≤ n by omega)))
def fg (b n:Int):List Int:=Uj b.toNat n.toNat
theorem NP (b:Nat) (I:2<=b):∀n:Nat,gJ (b:Int) (n:Int) (Uj b n):=by
 intro n
 induction n using Nat.strongRecOn with
 | ind n ih=>
  by_cases h:n<b\/b<2
  ·rw [fgN_lt h]
   refine ⟨λd hd=>?_,?_,by simp,.inl rfl⟩
   ·rw [zA] at hd;subst hd;omega
   ·show (0:Int) * b+n=n;omega
  ·rw [fgN_ge h]
   have B:n / b<n:=Nat.div_lt_self (by omega) (by omega)
   have d:=ih (n / b) B
   have hpos:0<n / b:=Nat.div_pos (by omega) (by omega)
   refine ⟨λx z=>?_,?_,by simp,.inr ?_⟩
   ·rcases zN.mp z with z|z
    ·exact d.jH x z
    ·rw [zA] at z;subst z
     have:=Nat.mod_lt n (show 0<b by omega)
     omega
   ·rw [jj,d.val]
    have:=Nat.div_add_mod n b
    have e:((n / b:Nat):Int) * (b:Int)+((n % b:Nat):Int)=((n / b * b+n % b:Nat):Int):=by push_cast;rfl
    rw [e]
    congr 1
    rw [Nat.mul_comm];exact this
   ·have h1:=d.pos (by omega)
    match D:Uj b (n / b),d.ne,h1 with
    | x::r,_,h1=>simpa using h1
theorem d9 {b n:Int} (B:2<=b) (z:0<=n):gJ b n (fg b n):=by
 have h:=NP b.toNat (by omega) n.toNat
 have e1:((b.toNat:Nat):Int)=b:=by omega
 have e2:((n.toNat:Nat):Int)=n:=by omega
 rw [e1,e2] at h
 exact h
theorem gJ.fg {b n:Int} {ds:List Int} (z:2<=b) (B:0<=n) (d:gJ b n ds):ds=fg b n:=gJ.uniq z _ rfl d (d9 z B)
theorem gJ.nn {b n:Int} {ds:List Int} (z:2<=b) (d:gJ b n ds):0<=n:=by
 have:=j7 (show 0<=b by omega) d.jH
 rw [d.val] at this;exact this
theorem v9 {b:Int} (z:1<=b):∀{ds:List Int},(∀d∈ds,0<=d/\d<b)->val b ds<b ^ ds.length
 | [],_=>by show (0:Int)<b ^ 0;simp
 | d::r,h=>by
  have h1:=h d zo
  have B:=v9 z (ds:=r) λx n=>h x (zp _ n)
  rw [fB,zH,zJ]
  have p:=aC (show 0<b by omega) r.length
  have:(d+1) * b ^ r.length<=b * b ^ r.length:=zB (by omega) (by omega)
  rw [Int.add_mul,xm,yG b] at this
  omega
theorem gJ.lt {b n:Int} {ds:List Int} (z:2<=b) (d:gJ b n ds):n<b ^ ds.length:=by rw [<-d.val];exact v9 (by omega) d.jH
theorem gJ.ge {b n:Int} {ds:List Int} (O:2<=b) (d:gJ b n ds) (B:0<n):b ^ (ds.length - 1)<=n:=by
 have h:=d.pos B
 have v:=d.val
 match ds,d.ne,h,d.jH,v with
 | x::r,_,h,jH,v=>
  have I:=jH x zo
  have D:x≠0:=by simpa using h
  have J:=j7 (show 0<=b by omega) (xs:=r) λy z=>jH y (zp _ z)
  rw [fB] at v
  show b ^ (r.length+1 - 1)<=n
  rw [y9]
  have p:=aC (show 0<b by omega) r.length
  have:1 * b ^ r.length<=x * b ^ r.length:=zB (by omega) (by omega)
  omega
def sZ:Int:=2 ^ 4000
theorem lA:sZ=2 ^ 4000:=rfl
theorem Ej {b n:Int} (B:2<=b) (D:0<=n) (h:n<sZ):(fg b n).length<=4001:=by
 have d:=d9 B D
 rw [lA] at h
 by_cases z:0<n
 ·have g:=d.ge B z
  by_cases q:(fg b n).length<=4001
  ·exact q
  ·have h1:=jy B ((fg b n).length - 1)
   have h2:=uM (show 4000<=(fg b n).length - 1 by omega)
   generalize (2:Int) ^ 4000=w at *
   omega
 ·have e:n=0:=by omega
  subst e
  have:fg b 0=[0]:=by
   unfold fg
   rw [fgN_lt (by left;show (0:Int).toNat<b.toNat;omega)]
   rfl
  rw [this];decide
theorem Yi {b n:Int} (B:2<=b) (z:0<=n):0<(fg b n).length:=List.length_pos_iff.mpr (d9 B z).ne
def bQ (b n:Int):Bool:=decide (fg b n=(fg b n).reverse)
theorem qR {b:Int} (n:2<=b):fg b 0=[0]:=by
 unfold fg
 rw [fgN_lt (by left;show (0:Int).toNat<b.toNat;omega)]
 rfl
theorem tu {b n:Int} (z:0<=n) (h:n<b):fg b n=[n]:=by
 unfold fg
 rw [fgN_lt (by left;omega)]
 congr 1;omega
theorem pL {b n:Int} (z:0<=n) (h:n<b):bQ b n=true:=by
 unfold bQ
 rw [tu z h];exact yj rfl
theorem v_ {n:Int} (h:n<=10 ^ 40):n<sZ:=by
 rw [lA]
 have:(10:Int) ^ 40<2 ^ 4000:=by decide
 omega
theorem wg (b:Int) (xs ys:List Int):val b (xs++ys)=val b xs * b ^ ys.length+val b ys:=by
 show (xs++ys).foldl _ 0=_
 rw [List.foldl_append]
 exact lz b ys _
theorem tD (b:Int):b ^ 1=b:=by rw [zJ,xC,xm]
def ln (b n:Int):Nat:=(fg b n).length
theorem bD {b:Int} (z:1<=b) {m n:Nat} (h:m<=n):b ^ m<=b ^ n:=by
 obtain ⟨k,rfl⟩:=Nat.exists_eq_add_of_le h
 rw [xz]
 have p:=aC (show 0<b by omega) m
 have q:=aC (show 0<b by omega) k
 have:b ^ m * 1<=b ^ m * b ^ k:=yp (by omega) (by omega)
 omega
theorem Yj {b:Int} (z:2<=b) {m n:Nat} (h:m<n):b ^ m<b ^ n:=by
 have h1:=bD (b:=b) (by omega) (show m+1<=n by omega)
 rw [zJ] at h1
 have p:=aC (show 0<b by omega) m
 have:b ^ m * 2<=b ^ m * b:=yp z (by omega)
 omega
theorem gQ {b n:Int} (z:2<=b) (B:1<=n):b ^ (ln b n - 1)<=n:=(d9 z (by omega)).ge z (by omega)
theorem iH {b n:Int} (z:2<=b) (B:0<=n):n<b ^ (ln b n):=(d9 z B).lt z
theorem eF {b n:Int} (B:2<=b) (z:0<=n):1<=ln b n:=Yi B z
theorem NQ {b n:Int} (z:2<=b) {L:Nat} (hL:1<=L) (D:b ^ (L - 1)<=n) (B:n<b ^ L):ln b n=L:=by
 have p:=aC (show 0<b by omega) (L - 1)
 have O:=gQ z (show 1<=n by omega)
 have J:=iH z (show 0<=n by omega)
 have I:=eF z (show 0<=n by omega)
 by_cases h:ln b n<L
 ·have:=bD (b:=b) (by omega) (show ln b n<=L - 1 by omega)
  omega
 ·by_cases h':L<ln b n
  ·have:=bD (b:=b) (by omega) (show L<=ln b n - 1 by omega)
   omega
  ·omega
theorem lB {b m n:Int} (z:2<=b) (D:0<=m) (h:m<=n):ln b m<=ln b n:=by
 by_cases B:m=0
 ·subst B
  have:ln b 0=1:=by unfold ln;rw [qR z];rfl
  have:=eF z (show 0<=n by omega)
  omega
 have J:=gQ z (show 1<=m by omega)
 have I:=iH z (show 0<=n by omega)
 by_cases q:ln b m<=ln b n
 ·exact q
 ·have:=bD (b:=b) (by omega) (show ln b n<=ln b m - 1 by omega)
  omega
def hf (L:Nat):Nat:=(L+1) / 2
theorem pM {b n:Int} {ds:List Int} (U:2<=b) (d:gJ b n ds) (j:Nat) (O:j<=ds.length):n / b ^ j=val b (ds.take (ds.length - j))/\n=val b (ds.take (ds.length - j)) * b ^ j+val b (ds.drop (ds.length - j)):=by
 have e:ds=ds.take (ds.length - j)++ds.drop (ds.length - j):=(List.take_append_drop _ _).symm
 have z:=d.val
 rw [e,wg] at z
 have D:(ds.drop (ds.length - j)).length=j:=by rw [yU];omega
 rw [D] at z
 have r:∀x∈ds.drop (ds.length - j),0<=x/\x<b:=λx J=>d.jH x (List.mem_of_mem_drop J)
 have I:=j7 (show 0<=b by omega) r
 have B:=v9 (show 1<=b by omega) r
 rw [D] at B
 have p:=aC (show 0<b by omega) j
 refine ⟨?_,z.symm⟩
 rw [<-z,xc,Int.add_mul_ediv_right _ _ (by omega),Int.ediv_eq_zero_of_lt I B,xE]
theorem uN {b n:Int} {ds:List Int} (O:2<=b) (d:gJ b n ds) (J:1<=n) {m:Nat} (I:1<=m) (D:m<=ds.length):gJ b (val b (ds.take m)) (ds.take m):=by
 have h:=d.pos (by omega)
 refine ⟨λx B=>d.jH x (xl B),rfl,?_,.inr ?_⟩
 ·intro z
  have:=yn List.length z
  rw [yD,List.length_nil] at this
  omega
 ·match ds,m,I,D,h with
  | x::r,m+1,_,_,h=>simpa using h
def gw (b f:Int) (L:Nat):Int:=val b (fg b f++((fg b f).take (L / 2)).reverse)
theorem R4 {α:Type} {xs:List α} {L:Nat} (n:xs.length=hf L):(xs++(xs.take (L / 2)).reverse).reverse=xs++(xs.take (L / 2)).reverse:=by
 unfold hf at n
 rw [yI,List.reverse_reverse]
 by_cases D:L % 2=0
 ·have e:L / 2=xs.length:=by omega
  rw [e,List.take_length]
 ·have e:L / 2=xs.length - 1:=by omega
  rw [e]
  have B:xs≠[]:=by intro z;rw [z] at n;simp at n;omega
  obtain ⟨ys,y,rfl⟩:∃ys y,xs=ys++[y]:=⟨xs.dropLast,xs.getLast B,(yL B).symm⟩
  have e2:(ys++[y]).length - 1=ys.length:=by simp
  rw [e2,List.take_left' rfl,yI]
  simp
structure Fr (b f:Int) (L:Nat):Prop where
 b2:2<=b
 L1:1<=L
 lo:b ^ (hf L - 1)<=f
 hi:f<b ^ hf L
theorem tE {L:Nat} (h:1<=L):1<=hf L:=by unfold hf;omega
theorem Fr.pos {b f:Int} {L:Nat} (h:Fr b f L):1<=f:=by have:=aC (show 0<b by have:=h.b2;omega) (hf L - 1);have:=h.lo;omega
theorem Fr.len {b f:Int} {L:Nat} (h:Fr b f L):(fg b f).length=hf L:=NQ h.b2 (tE h.L1) h.lo h.hi
theorem Fr.aa2 {b f:Int} {L:Nat} (h:Fr b f L):gJ b (gw b f L) (fg b f++((fg b f).take (L / 2)).reverse):=by
 have d:=d9 h.b2 (show 0<=f by have:=h.pos;omega)
 have p:=d.pos (by have:=h.pos;omega)
 refine ⟨λx n=>?_,rfl,?_,.inr ?_⟩
 ·rcases zN.mp n with n|n
  ·exact d.jH x n
  ·exact d.jH x (xl (yi.mp n))
 ·intro z;exact d.ne (List.append_eq_nil_iff.mp z).1
 ·match fg b f,d.ne,p with
  | x::r,_,p=>simpa using p
theorem Fr.wj {b f:Int} {L:Nat} (h:Fr b f L):0<=gw b f L:=h.aa2.nn h.b2
theorem Fr.fgp {b f:Int} {L:Nat} (h:Fr b f L):fg b (gw b f L)=fg b f++((fg b f).take (L / 2)).reverse:=(h.aa2.fg h.b2 h.wj).symm
theorem Fr.bQ {b f:Int} {L:Nat} (h:Fr b f L):bQ b (gw b f L)=true:=by
 unfold M.bQ
 rw [h.fgp]
 exact yj (R4 h.len).symm
theorem Fr.ln {b f:Int} {L:Nat} (h:Fr b f L):ln b (gw b f L)=L:=by
 unfold M.ln
 have l:=h.len
 have:=h.L1
 rw [h.fgp,zj,yP,yD,l]
 unfold hf;omega
theorem Fr.split {b f:Int} {L:Nat} (h:Fr b f L):f * b ^ (L / 2)<=gw b f L/\gw b f L<(f+1) * b ^ (L / 2):=by
 have d:=d9 h.b2 (show 0<=f by have:=h.pos;omega)
 have I:=h.b2
 have e:gw b f L=val b (fg b f) * b ^ (((fg b f).take (L / 2)).reverse).length+val b (((fg b f).take (L / 2)).reverse):=wg _ _ _
 have n:(((fg b f).take (L / 2)).reverse).length=L / 2:=by rw [yP,yD,h.len];unfold hf;omega
 rw [n,d.val] at e
 have r:∀x∈((fg b f).take (L / 2)).reverse,0<=x/\x<b:=λx B=>d.jH x (xl (yi.mp B))
 have D:=j7 (show 0<=b by omega) r
 have z:=v9 (show 1<=b by omega) r
 rw [n] at z
 rw [Int.add_mul,xm]
 omega
theorem Fr.front {b f:Int} {L:Nat} (h:Fr b f L):gw b f L / b ^ (L / 2)=f:=by
 obtain ⟨h1,h2⟩:=h.split
 have p:=aC (show 0<b by have:=h.b2;omega) (L / 2)
 have z:f<=gw b f L / b ^ (L / 2):=Int.le_ediv_of_mul_le p h1
 have n:gw b f L / b ^ (L / 2)<f+1:=Int.ediv_lt_of_lt_mul p h2
 omega
theorem Fr.mono {b f n:Int} {L:Nat} (h:Fr b f L) (h':Fr b n L) (z:f<n):gw b f L<gw b n L:=by
 have h1:=h.split.2
 have h2:=h'.split.1
 have p:=aC (show 0<b by have:=h.b2;omega) (L / 2)
 have:(f+1) * b ^ (L / 2)<=n * b ^ (L / 2):=zB (by omega) (by omega)
 omega
theorem bO {b n:Int} (B:2<=b) (O:1<=n):Fr b (n / b ^ (ln b n / 2)) (ln b n):=by
 have d:=d9 B (show 0<=n by omega)
 have D:=eF B (show 0<=n by omega)
 obtain ⟨e,_⟩:=pM B d (ln b n / 2) (by unfold ln;omega)
 have Y:(fg b n).length - ln b n / 2=hf (ln b n):=by unfold hf ln;unfold ln at D;omega
 rw [Y] at e
 have U:=uN B d O (tE D) (by unfold hf ln;unfold ln at D;omega)
 have J:((fg b n).take (hf (ln b n))).length=hf (ln b n):=by rw [yD];unfold hf ln;unfold ln at D;omega
 rw [e]
 refine ⟨B,D,?_,?_⟩
 ·have hpos:0<val b ((fg b n).take (hf (ln b n))):=by
   rw [<-e]
   have g:=gQ B O
   have p:=aC (show 0<b by omega) (ln b n / 2)
   by_cases z:0<n / b ^ (ln b n / 2)
   ·exact z
   ·have z0:=Int.ediv_nonneg (show 0<=n by omega) (show 0<=b ^ (ln b n / 2) by omega)
    have Z:n / b ^ (ln b n / 2)=0:=by omega
    have I:=Int.lt_mul_of_ediv_lt p (show n / b ^ (ln b n / 2)<1 by omega)
    rw [xm] at I
    by_cases q:ln b n=1
    ·rw [q] at I;simp at I;omega
    ·have:=bD (b:=b) (by omega) (show ln b n / 2<=ln b n - 1 by omega)
     omega
  have:=U.ge B hpos
  rw [J] at this;exact this
 ·have:=U.lt B
  rw [J] at this;exact this
theorem fZ {b n:Int} (z:2<=b) (D:1<=n) (h:bQ b n=true):gw b (n / b ^ (ln b n / 2)) (ln b n)=n:=by
 have d:=d9 z (show 0<=n by omega)
 have F:=bO z D
 obtain ⟨e,_⟩:=pM z d (ln b n / 2) (by unfold ln;omega)
 have B:=eF z (show 0<=n by omega)
 have U:(fg b n).length - ln b n / 2=hf (ln b n):=by unfold hf ln;unfold ln at B;omega
 rw [U] at e
 have I:=uN z d D (tE B) (by unfold hf ln;unfold ln at B;omega)
 have Z:fg b (n / b ^ (ln b n / 2))=(fg b n).take (hf (ln b n)):=by
  rw [e];exact (I.fg z (I.nn z)).symm
 have J:fg b n=(fg b n).reverse:=yY h
 unfold gw
 rw [Z,List.take_take]
 have O:min (ln b n / 2) (hf (ln b n))=ln b n / 2:=by unfold hf;omega
 rw [O]
 have Y:(fg b n).drop (hf (ln b n))=((fg b n).take (ln b n / 2)).reverse:=by
  have:(fg b n).drop (hf (ln b n))=((fg b n).reverse).drop (hf (ln b n)):=by rw [<-J]
  rw [this,List.drop_reverse]
  congr 2
  unfold hf ln;unfold ln at B;omega
 rw [<-Y,List.take_append_drop]
 exact d.val
def Mp (b m:Int):Prop:=0<=m/\bQ b m=true
structure AM (b n m:Int):Prop where
 mp:Mp b m
 le:m<=n
 top:∀k,Mp b k->k<=n->k<=m
structure AL (b n m:Int):Prop where
 mp:Mp b m
 le:n<=m
 bot:∀k,Mp b k->n<=k->m<=k
structure Nx (b n m:Int):Prop where
 mp:Mp b m
 lt:n<m
 bot:∀k,Mp b k->n<k->m<=k
theorem AM.uniq {b n m m':Int} (h:AM b n m) (h':AM b n m'):m=m':=by
 have:=h.top m' h'.mp h'.le
 have:=h'.top m h.mp h.le
 omega
theorem Nx.uniq {b n m m':Int} (h:Nx b n m) (h':Nx b n m'):m=m':=by
 have:=h.bot m' h'.mp h'.lt
 have:=h'.bot m h.mp h.lt
 omega
theorem fD {b m:Int} (h0:0<=m) (h:m<b):Mp b m:=⟨h0,pL h0 h⟩
theorem uO {b:Int} (B:2<=b) {L:Nat} (hL:1<=L):Fr b (b ^ hf L - 1) L/\gw b (b ^ hf L - 1) L=b ^ L - 1:=by
 have h1:=tE hL
 have F:Fr b (b ^ hf L - 1) L:=⟨B,hL,by
  have:=Yj B (show hf L - 1<hf L by omega)
  omega,by omega⟩
 refine ⟨F,?_⟩
 -- its Gr are all the greatest
 have rep:∀k:Nat,val b (List.replicate k (b - 1))=b ^ k - 1:=by
  intro k
  induction k with
  | zero=>simp [val]
  | succ k ih=>
   rw [zT,fB,zE,ih,zJ,Int.sub_mul,xm,yG b]
   omega
 have D:gJ b (b ^ hf L - 1) (List.replicate (hf L) (b - 1)):=⟨λd hd=>by have:=List.eq_of_mem_replicate hd;omega,rep _,by
  obtain ⟨k,n⟩:∃k,hf L=k+1:=⟨hf L - 1,by omega⟩
  rw [n,zT];simp,.inr (by
  obtain ⟨k,n⟩:∃k,hf L=k+1:=⟨hf L - 1,by omega⟩
  rw [n,zT]
  intro z
  have:b - 1=0:=by simpa using z
  omega)⟩
 have e:=(D.fg B (by have:=F.pos;omega))
 unfold gw
 rw [<-e,List.take_replicate,List.reverse_replicate,List.replicate_append_replicate,rep]
 have:hf L+min (L / 2) (hf L)=L:=by unfold hf;omega
 rw [this]
theorem j8 {b:Int} (n:2<=b) (L:Nat):Mp b (b ^ L - 1):=by
 by_cases h:1<=L
 ·obtain ⟨F,e⟩:=uO n h
  rw [<-e];exact ⟨F.wj,F.bQ⟩
 ·have:L=0:=by omega
  subst this
  exact fD (by simp) (by simp;omega)
theorem Fr.mp {b f:Int} {L:Nat} (h:Fr b f L):Mp b (gw b f L):=⟨h.wj,h.bQ⟩
theorem NT {b n:Int} (z:2<=b) (O:1<=n) (h:gw b (n / b ^ (ln b n / 2)) (ln b n)<=n):AM b n (gw b (n / b ^ (ln b n / 2)) (ln b n)):=by
 have F:=bO z O
 refine ⟨F.mp,h,λk D B=>?_⟩
 by_cases Y:k<=0
 ·have:=F.wj;omega
 have ll:=lB z D.1 B
 by_cases hL:ln b k=ln b n
 ·have J:=bO z (show 1<=k by omega)
  have I:=fZ z (show 1<=k by omega) D.2
  rw [hL] at J I
  have U:k / b ^ (ln b n / 2)<=n / b ^ (ln b n / 2):=x8 (aC (by omega) _) B
  by_cases Z:k / b ^ (ln b n / 2)=n / b ^ (ln b n / 2)
  ·rw [Z] at I;omega
  ·have:=J.mono F (by omega)
   omega
 ·have g1:=iH z D.1
  have g2:=gQ z (show 1<=gw b (n / b ^ (ln b n / 2)) (ln b n) by
   have:=F.split.1
   have:=F.pos
   have p:=aC (show 0<b by omega) (ln b n / 2)
   have:=zB (show 1<=n / b ^ (ln b n / 2) by omega) (show 0<=b ^ (ln b n / 2) by omega)
   omega)
  rw [F.ln] at g2
  have:=bD (b:=b) (by omega) (show ln b k<=ln b n - 1 by omega)
  omega
theorem R5 {b n:Int} (z:2<=b) (Y:1<=n) (h:n<gw b (n / b ^ (ln b n / 2)) (ln b n)) (hf':n / b ^ (ln b n / 2)≠b ^ (hf (ln b n) - 1)):AM b n (gw b (n / b ^ (ln b n / 2) - 1) (ln b n)):=by
 have F:=bO z Y
 have B:Fr b (n / b ^ (ln b n / 2) - 1) (ln b n):=⟨z,F.L1,by have:=F.lo;omega,by have:=F.hi;omega⟩
 have p:=aC (show 0<b by omega) (ln b n / 2)
 have h1:gw b (n / b ^ (ln b n / 2) - 1) (ln b n)<=n:=by
  have:=B.split.2
  have e:n / b ^ (ln b n / 2) - 1+1=n / b ^ (ln b n / 2):=by omega
  rw [e] at this
  have:=Int.ediv_mul_le n (show b ^ (ln b n / 2)≠0 by omega)
  omega
 refine ⟨B.mp,h1,λk I D=>?_⟩
 by_cases hk1:k<=0
 ·have:=B.wj;omega
 have ll:=lB z I.1 D
 by_cases hL:ln b k=ln b n
 ·have U:=bO z (show 1<=k by omega)
  have O:=fZ z (show 1<=k by omega) I.2
  rw [hL] at U O
  have Z:k / b ^ (ln b n / 2)<=n / b ^ (ln b n / 2):=x8 p D
  by_cases he:k / b ^ (ln b n / 2)=n / b ^ (ln b n / 2)
  ·rw [he] at O;omega
  ·by_cases J:k / b ^ (ln b n / 2)=n / b ^ (ln b n / 2) - 1
   ·rw [J] at O;omega
   ·have:=U.mono B (by omega)
    omega
 ·have g1:=iH z I.1
  have g2:=gQ z (show 1<=gw b (n / b ^ (ln b n / 2) - 1) (ln b n) by
   have:=B.split.1
   have:=B.pos
   have:=zB (show 1<=n / b ^ (ln b n / 2) - 1 by omega) (show 0<=b ^ (ln b n / 2) by omega)
   omega)
  rw [B.ln] at g2
  have:=bD (b:=b) (by omega) (show ln b k<=ln b n - 1 by omega)
  omega
theorem NZ {b n:Int} (z:2<=b) (I:1<=n) (h:n<gw b (n / b ^ (ln b n / 2)) (ln b n)) (Z:n / b ^ (ln b n / 2)=b ^ (hf (ln b n) - 1)):AM b n (b ^ (ln b n - 1) - 1):=by
 have F:=bO z I
 have p:=aC (show 0<b by omega) (ln b n / 2)
 have g:=gQ z I
 refine ⟨j8 z _,by omega,λk D B=>?_⟩
 have q:=aC (show 0<b by omega) (ln b n - 1)
 by_cases Y:k<=0
 ·omega
 have ll:=lB z D.1 B
 by_cases hL:ln b k=ln b n
 ·have O:=bO z (show 1<=k by omega)
  have J:=fZ z (show 1<=k by omega) D.2
  rw [hL] at O J
  have U:k / b ^ (ln b n / 2)<=n / b ^ (ln b n / 2):=x8 p B
  have:=O.lo
  have he:k / b ^ (ln b n / 2)=n / b ^ (ln b n / 2):=by omega
  rw [he] at J;omega
 ·have g1:=iH z D.1
  have:=bD (b:=b) (by omega) (show ln b k<=ln b n - 1 by omega)
  omega
theorem N5 {b n:Int} (z:2<=b) (I:1<=n) (h:n<=gw b (n / b ^ (ln b n / 2)) (ln b n)):AL b n (gw b (n / b ^ (ln b n / 2)) (ln b n)):=by
 have F:=bO z I
 have p:=aC (show 0<b by omega) (ln b n / 2)
 refine ⟨F.mp,h,λk O B=>?_⟩
 have ll:=lB z (show 0<=n by omega) B
 by_cases hL:ln b k=ln b n
 ·have D:=bO z (show 1<=k by omega)
  have Z:=fZ z (show 1<=k by omega) O.2
  rw [hL] at D Z
  have J:n / b ^ (ln b n / 2)<=k / b ^ (ln b n / 2):=x8 p B
  by_cases U:n / b ^ (ln b n / 2)=k / b ^ (ln b n / 2)
  ·rw [U];omega
  ·have:=F.mono D (by omega)
   omega
 ·have Y:=iH z F.wj
  rw [F.ln] at Y
  have g2:=gQ z (show 1<=k by omega)
  have:=bD (b:=b) (by omega) (show ln b n<=ln b k - 1 by omega)
  omega
theorem R6 {b n:Int} (B:2<=b) (Y:1<=n) (h:gw b (n / b ^ (ln b n / 2)) (ln b n)<n):Fr b (n / b ^ (ln b n / 2)+1) (ln b n)/\AL b n (gw b (n / b ^ (ln b n / 2)+1) (ln b n)):=by
 have F:=bO B Y
 have p:=aC (show 0<b by omega) (ln b n / 2)
 have D:Fr b (n / b ^ (ln b n / 2)+1) (ln b n):=⟨B,F.L1,by have:=F.lo;omega,by
  have hi:=F.hi
  by_cases z:n / b ^ (ln b n / 2)+1<b ^ hf (ln b n)
  ·exact z
  ·have e:n / b ^ (ln b n / 2)=b ^ hf (ln b n) - 1:=by omega
   have:=(uO B F.L1).2
   rw [<-e] at this
   have:=iH B (show 0<=n by omega)
   omega⟩
 refine ⟨D,D.mp,?_,λk hk I=>?_⟩
 ·have h1:=D.split.1
  have:=Int.lt_ediv_add_one_mul_self n p
  omega
 have ll:=lB B (show 0<=n by omega) I
 by_cases hL:ln b k=ln b n
 ·have U:=bO B (show 1<=k by omega)
  have O:=fZ B (show 1<=k by omega) hk.2
  rw [hL] at U O
  have Z:n / b ^ (ln b n / 2)<=k / b ^ (ln b n / 2):=x8 p I
  by_cases he:n / b ^ (ln b n / 2)=k / b ^ (ln b n / 2)
  ·rw [<-he] at O;omega
  ·by_cases J:n / b ^ (ln b n / 2)+1=k / b ^ (ln b n / 2)
   ·rw [J];omega
   ·have:=D.mono U (by omega)
    omega
 ·have g1:=iH B D.wj
  rw [D.ln] at g1
  have g2:=gQ B (show 1<=k by omega)
  have:=bD (b:=b) (by omega) (show ln b n<=ln b k - 1 by omega)
  omega
theorem Bs {b m:Int} (n:2<=b) (I:Mp b m) (J:1<=m) (h:m≠b ^ ln b m - 1):Fr b (m / b ^ (ln b m / 2)+1) (ln b m)/\Nx b m (gw b (m / b ^ (ln b m / 2)+1) (ln b m)):=by
 have F:=bO n J
 have em:=fZ n J I.2
 have p:=aC (show 0<b by omega) (ln b m / 2)
 have B:Fr b (m / b ^ (ln b m / 2)+1) (ln b m):=⟨n,F.L1,by have:=F.lo;omega,by
  have hi:=F.hi
  by_cases z:m / b ^ (ln b m / 2)+1<b ^ hf (ln b m)
  ·exact z
  ·have e:m / b ^ (ln b m / 2)=b ^ hf (ln b m) - 1:=by omega
   have:=(uO n F.L1).2
   rw [<-e] at this
   omega⟩
 refine ⟨B,B.mp,by have:=F.mono B (by omega);omega,λk hk Z=>?_⟩
 have ll:=lB n I.1 (show m<=k by omega)
 by_cases hL:ln b k=ln b m
 ·have U:=bO n (show 1<=k by omega)
  have O:=fZ n (show 1<=k by omega) hk.2
  rw [hL] at U O
  have Y:m / b ^ (ln b m / 2)<=k / b ^ (ln b m / 2):=x8 p (by omega)
  by_cases he:m / b ^ (ln b m / 2)=k / b ^ (ln b m / 2)
  ·rw [<-he] at O;omega
  ·by_cases D:m / b ^ (ln b m / 2)+1=k / b ^ (ln b m / 2)
   ·rw [D];omega
   ·have:=B.mono U (by omega)
    omega
 ·have g1:=iH n B.wj
  rw [B.ln] at g1
  have g2:=gQ n (show 1<=k by omega)
  have:=bD (b:=b) (by omega) (show ln b m<=ln b k - 1 by omega)
  omega
theorem lC (b:Int):∀k:Nat,val b (List.replicate k 0)=0
 | 0=>rfl
 | k+1=>by rw [zT,fB,lC b k,Int.zero_mul,xE]
theorem N7 {b:Int} (n:2<=b) (k:Nat):gJ b (b ^ k) (1::List.replicate k 0):=
 ⟨λd hd=>by
  rcases zr.mp hd with rfl|hd
  ·omega
  ·have:=List.eq_of_mem_replicate hd;omega,by rw [fB,lC,zE];omega,by simp,.inr (by simp)⟩
theorem R7 {b:Int} (n:2<=b) {k:Nat} (B:1<=k):bQ b (b ^ k)=false:=by
 unfold bQ
 have e:=(N7 n k).fg n (by have:=aC (show 0<b by omega) k;omega)
 rw [<-e]
 obtain ⟨j,rfl⟩:∃j,k=j+1:=⟨k - 1,by omega⟩
 refine zY λz=>?_
 have:=yn List.head? z
 rw [List.replicate_succ',yr,yI] at this
 simp at this
theorem IV {b:Int} (n:2<=b) (k:Nat):gJ b (b ^ (k+1)+1) (1::(List.replicate k 0++[1])):=
 ⟨λd hd=>by
  rcases zr.mp hd with rfl|hd
  ·omega
  ·rcases zN.mp hd with hd|hd
   ·have:=List.eq_of_mem_replicate hd;omega
   ·rw [zA] at hd;omega,by
  rw [fB,jj,lC,zj,zE,yd];omega,by simp,.inr (by simp)⟩
theorem R8 {b:Int} (n:2<=b) (k:Nat):Mp b (b ^ (k+1)+1):=by
 have p:=aC (show 0<b by omega) (k+1)
 refine ⟨by omega,?_⟩
 unfold bQ
 rw [<-(IV n k).fg n (by omega)]
 refine yj ?_
 rw [yr,yI,List.reverse_replicate]
 simp
theorem Bt {b:Int} (n:2<=b) {L:Nat} (hL:1<=L):Nx b (b ^ L - 1) (b ^ L+1):=by
 obtain ⟨j,rfl⟩:∃j,L=j+1:=⟨L - 1,by omega⟩
 refine ⟨R8 n j,by omega,λk z h=>?_⟩
 by_cases e:k=b ^ (j+1)
 ·have:=z.2
  rw [e,R7 n (by omega)] at this;cases this
 ·omega
theorem Gs {b:Int} (n:2<=b):Nx b 0 1:=⟨fD (by decide) (by omega),by decide,λk _ h=>by omega⟩
theorem Bu {b n:Int} (B:2<=b) (z:0<=n) (h:n<sZ):ln b n<=4001:=Ej B z h
theorem pw_big {b n:Int} (B:2<=b) (I:0<=n) (h:n<sZ) {k:Nat} (D:k<=ln b n - 1):b ^ k<2 ^ 4000:=by
 by_cases z:1<=n
 ·have:=gQ B z
  have:=bD (b:=b) (by omega) D
  rw [<-lA];omega
 ·have e:n=0:=by omega
  subst e
  have:ln b 0=1:=by unfold ln;rw [qR B];rfl
  have:k=0:=by omega
  subst this
  have:(1:Int)<2 ^ 4000:=by decide
  simpa using this
def uP (b:Int) (L:Nat):Int:=b ^ hf L - 1+b ^ (L / 2) - 1
def pl (b m:Int):Int:=if m=0 then 0 else uP b (ln b m - 1)+(m / b ^ (ln b m / 2) - b ^ (hf (ln b m) - 1))+1
def pN (b:Int):Nat->Int
 | 0=>0
 | n+1=>pN b n+(if bQ b ((n:Int)+1)=true then 1 else 0)
def cnt (b n:Int):Int:=pN b n.toNat
theorem tG {b:Int} {L:Nat} (hL:1<=L):uP b L=uP b (L - 1)+b ^ hf L - b ^ (hf L - 1):=by
 unfold uP
 have e1:hf (L - 1)=L / 2:=by unfold hf;omega
 have e2:(L - 1) / 2=hf L - 1:=by unfold hf;omega
 rw [e1,e2];omega
theorem R9 {b m z:Int} (n:2<=b) (D:Mp b m) (h:Nx b m z):pl b z=pl b m+1:=by
 by_cases O:m=0
 ·subst O
  have e:=h.uniq (Gs n)
  subst e
  have l1:ln b 1=1:=by unfold ln;rw [tu (by decide) (by omega)];rfl
  unfold pl
  rw [zi (by decide),zm rfl,l1]
  simp [uP,hf]
 have I:1<=m:=by have:=D.1;omega
 have F:=bO n I
 have em:=fZ n I D.2
 by_cases U:m=b ^ ln b m - 1
 ·-- greatest Gr alone
  have l0:=eF n D.1
  have nx:=Bt n l0
  rw [<-U] at nx
  have e:=h.uniq nx
  have p:=aC (show 0<b by omega) (ln b m)
  have q2:=bD (b:=b) (by omega) (show 1<=ln b m by omega)
  rw [tD] at q2
  have J:ln b z=ln b m+1:=NQ n (by omega) (by rw [y9,e];omega) (by
   rw [e,zJ]
   have:b ^ ln b m * 2<=b ^ ln b m * b:=yp n (by omega)
   omega)
  have B:z≠0:=by rw [e];omega
  have fr:z / b ^ ((ln b m+1) / 2)=b ^ (hf (ln b m+1) - 1):=by
   have ep:b ^ ln b m=b ^ (hf (ln b m+1) - 1) * b ^ ((ln b m+1) / 2):=by
    rw [<-xz];congr 1;unfold hf;omega
   have p2:=aC (show 0<b by omega) ((ln b m+1) / 2)
   have Z:=bD (b:=b) (by omega) (show 1<=(ln b m+1) / 2 by omega)
   rw [tD] at Z
   rw [e,ep,xc,Int.add_mul_ediv_right _ _ (by omega),Int.ediv_eq_zero_of_lt (by decide) (by omega),xE]
  have f0:m / b ^ (ln b m / 2)=b ^ hf (ln b m) - 1:=by
   have N:=uO n l0
   have:gw b (b ^ hf (ln b m) - 1) (ln b m)=m:=by rw [N.2];exact U.symm
   have g:=N.1.front
   rw [this] at g;exact g
  unfold pl
  rw [zi B,zi O,J,y9,fr,f0,tG l0]
  omega
 ·obtain ⟨Y,nx⟩:=Bs n D I U
  have e:=h.uniq nx
  have J:ln b z=ln b m:=by rw [e];exact Y.ln
  have fr:z / b ^ (ln b m / 2)=m / b ^ (ln b m / 2)+1:=by rw [e];exact Y.front
  have B:z≠0:=by have:=h.lt;omega
  unfold pl
  rw [zi B,zi O,J,fr]
  omega
theorem AM.step {b:Int} {n:Nat} {m:Int} (h:AM b n m) (B:bQ b ((n:Int)+1)=false):AM b ((n:Int)+1) m:=⟨h.mp,by have:=h.le;omega,λk z D=>by
 by_cases e:k=(n:Int)+1
 ·rw [e] at z;rw [z.2] at B;cases B
 ·exact h.top k z (by omega)⟩
theorem AM.self {b m:Int} (h:Mp b m):AM b m m:=⟨h,yx _,λ_ _ h=>h⟩
theorem Gu {b:Int} (B:2<=b):∀n:Nat,∃m,AM b n m
 | 0=>⟨0,fD (by decide) (by omega),by simp,λk _ h=>h⟩
 | n+1=>by
  cases z:bQ b ((n:Int)+1) with
  | true=>exact ⟨(n:Int)+1,AM.self ⟨by omega,z⟩⟩
  | false=>
   obtain ⟨m,h⟩:=Gu B n
   exact ⟨m,h.step z⟩
theorem Gv {b:Int} (B:2<=b):∀(n:Nat) (m:Int),AM b n m->pl b m=pN b n
 | 0,m,h=>by
  have:m=0:=by have:=h.le;have:=h.mp.1;omega
  subst this
  unfold pl;rw [zm rfl];rfl
 | n+1,m,h=>by
  have h':AM b ((n:Int)+1) m:=h
  show pl b m=pN b n+_
  obtain ⟨m0,h0⟩:=Gu B n
  have D:=Gv B n m0 h0
  cases I:bQ b ((n:Int)+1) with
  | true=>
   have e:m=(n:Int)+1:=h'.uniq (AM.self ⟨by omega,I⟩)
   have nx:Nx b m0 m:=⟨h.mp,by have:=h0.le;omega,λk O J=>by
    by_cases z:k<=n
    ·have:=h0.top k O z;omega
    ·omega⟩
   rw [R9 B h0.mp nx,D];simp
  | false=>
   have e:m=m0:=h'.uniq (h0.step I)
   rw [e,D];simp
theorem mO {b n m:Int} (z:2<=b) (B:0<=n) (h:AM b n m):pl b m=cnt b n:=by
 unfold cnt
 refine Gv z _ _ ?_
 have:((n.toNat:Nat):Int)=n:=by omega
 rw [this];exact h
theorem Fr.pl {b f:Int} {L:Nat} (F:Fr b f L):pl b (gw b f L)=uP b (L - 1)+(f - b ^ (hf L - 1))+1:=by
 have h1:=F.split.1
 have p:=aC (show 0<b by have:=F.b2;omega) (L / 2)
 have:=F.pos
 have:=zB (show 1<=f by omega) (show 0<=b ^ (L / 2) by omega)
 unfold M.pl
 rw [zi (by omega),F.ln,F.front]
def Mid:Int:=2 ^ 1100
theorem Yk {m:Int} (h:m<=10 ^ 60):m<Mid:=by
 have:(10:Int) ^ 60<Mid:=by unfold Mid;decide
 omega
theorem N8 {b m:Int} (n:2<=b) (B:Mp b m) (z:1<=m):pl b m<=uP b (ln b m):=by
 have F:=bO n z
 have e:=F.pl
 rw [fZ n z B.2] at e
 rw [e,tG F.L1]
 have:=F.hi
 omega
theorem Uk {x y:Int} (B:0<=x) (n:0<=y) (h:x * x<=y * y):x<=y:=by
 by_cases z:x<=y
 ·exact z
 ·have h1:y * x<x * x:=Int.mul_lt_mul_of_pos_right (by omega) (by omega)
  have h2:y * y<=y * x:=yp (by omega) n
  omega
theorem N_ {b m:Int} (B:2<=b) (n:b<=36) (z:Mp b m) (h:m<=10 ^ 40):pl b m<10 ^ 24:=by
 by_cases J:m=0
 ·subst J;unfold pl;rw [zm rfl];decide
 have I:1<=m:=by have:=z.1;omega
 have l0:=eF B z.1
 have g:=gQ B I
 have Y:=aC (show 0<b by omega) (hf (ln b m))
 have e1:b ^ hf (ln b m) * b ^ hf (ln b m)<=(36 * 10 ^ 20) * (36 * 10 ^ 20):=by
  rw [<-xz]
  have h1:hf (ln b m)+hf (ln b m)<=ln b m - 1+2:=by unfold hf;omega
  have h2:=bD (b:=b) (by omega) h1
  have D:b ^ (ln b m - 1+2)=b ^ (ln b m - 1) * b ^ 2:=xz ..
  rw [D] at h2
  have O:b ^ 2<=36 * 36:=by
   have:b ^ 2=b * b:=by rw [zJ,tD]
   rw [this]
   exact yK n n (by omega) (by decide)
  have h4:b ^ (ln b m - 1) * b ^ 2<=10 ^ 40 * (36 * 36):=yK (by omega) O (by have:=aC (show 0<b by omega) 2;omega) (by decide)
  have Z:(10:Int) ^ 40 * (36 * 36)=(36 * 10 ^ 20) * (36 * 10 ^ 20):=by decide
  omega
 have e2:=Uk (by omega) (by decide) e1
 have U:=N8 B z I
 have e4:=bD (b:=b) (by omega) (show ln b m / 2<=hf (ln b m) by unfold hf;omega)
 unfold uP at U
 have:(36:Int) * 10 ^ 20+36 * 10 ^ 20<10 ^ 24:=by decide
 omega
theorem Bv {b:Int} {n:Nat}:pN b (n+1)=pN b n+(if bQ b ((n:Int)+1)=true then 1 else 0):=rfl
def jJ (b:Int):Nat->List Int
 | 0=>[]
 | n+1=>if bQ b ((n:Int)+1)=true then jJ b n++[(n:Int)+1] else jJ b n
def bA (b n:Int):List Int:=jJ b n.toNat
theorem jz {b:Int} {n:Nat} (h:bQ b ((n:Int)+1)=true):jJ b (n+1)=jJ b n++[(n:Int)+1]:=by rw [jJ,zm h]
theorem jA {b:Int} {n:Nat} (h:¬bQ b ((n:Int)+1)=true):jJ b (n+1)=jJ b n:=by rw [jJ,zi h]
theorem Gw {b:Int} {m:Nat}:∀{n:Nat},m<=n->(∀k:Int,(m:Int)<k->k<=(n:Int)->¬bQ b k=true)->jJ b n=jJ b m
 | 0,h,_=>by
  have:m=0:=by omega
  rw [this]
 | n+1,h,hk=>by
  by_cases e:m=n+1
  ·rw [e]
  ·rw [jA (hk _ (by omega) (by omega))]
   exact Gw (by omega) λk h1 h2=>hk k h1 (by omega)
theorem Gx {b m z n:Int} (B:Mp b m) (h:Nx b m z) (O:m<=n) (J:n<z):bA b n=bA b m:=by
 have I:=B.1
 unfold bA
 refine Gw (by omega) λk k1 k2 D=>?_
 have:=h.bot k ⟨by omega,D⟩ (by omega)
 omega
theorem Oa {b m m':Int} (z:Mp b m) (h:Nx b m m'):bA b m'=bA b m++[m']:=by
 have D:=z.1
 have lt:=h.lt
 have g:=Gx z h (n:=m' - 1) (by omega) (by omega)
 rw [<-g]
 unfold bA
 obtain ⟨k,B⟩:∃k,m'.toNat=k+1:=⟨m'.toNat - 1,by omega⟩
 have e:(m' - 1).toNat=k:=by omega
 have e2:(k:Int)+1=m':=by omega
 rw [B,e,jz (by rw [e2];exact h.mp.2),e2]
theorem wk {b:Int}:∀{n:Nat} {k:Int},k∈jJ b n ↔ 1<=k/\k<=(n:Int)/\bQ b k=true
 | 0,k=>by
  simp only [jJ,yJ,false_iff]
  omega
 | n+1,k=>by
  have B:=wk (b:=b) (n:=n) (k:=k)
  by_cases h:bQ b ((n:Int)+1)=true
  ·rw [jz h,zN,zA,B]
   constructor
   ·rintro (⟨h1,h2,z⟩|rfl)
    ·exact ⟨h1,by omega,z⟩
    ·exact ⟨by omega,by omega,h⟩
   ·rintro ⟨h1,h2,z⟩
    by_cases e:k=(n:Int)+1
    ·exact .inr e
    ·exact .inl ⟨h1,by omega,z⟩
  ·rw [jA h,B]
   constructor
   ·rintro ⟨h1,h2,z⟩;exact ⟨h1,by omega,z⟩
   ·rintro ⟨h1,h2,z⟩
    refine ⟨h1,?_,z⟩
    by_cases e:k=(n:Int)+1
    ·rw [e] at z;exact absurd z h
    ·omega
theorem iI {b n k:Int} (z:0<=n):k∈bA b n ↔ 1<=k/\k<=n/\bQ b k=true:=by
 unfold bA
 rw [wk]
 have:((n.toNat:Nat):Int)=n:=by omega
 rw [this]
theorem tH (b:Int):∀n:Nat,(jJ b n).Pairwise (·<·)
 | 0=>List.Pairwise.nil
 | n+1=>by
  have z:=tH b n
  by_cases h:bQ b ((n:Int)+1)=true
  ·rw [jz h,List.pairwise_append]
   refine ⟨z,List.pairwise_singleton _ _,λx D y B=>?_⟩
   rw [zA] at B
   have:=(wk.mp D).2.1
   omega
  ·rw [jA h];exact z
theorem iu (b n:Int):(bA b n).Pairwise (·<·):=tH b _
theorem Gy (b:Int):∀n:Nat,((jJ b n).length:Int)=pN b n
 | 0=>rfl
 | n+1=>by
  have z:=Gy b n
  by_cases h:bQ b ((n:Int)+1)=true
  ·rw [jz h,zj,Bv,zm h,<-z];simp
  ·rw [jA h,Bv,zi h,<-z];simp
theorem ou (b n:Int):((bA b n).length:Int)=cnt b n:=Gy b _
theorem Ob {b:Int} (n:2<=b) {L:Nat} (hL:1<=L):Nx b (b ^ (L - 1) - 1) (gw b (b ^ (hf L - 1)) L):=by
 by_cases h1:L=1
 ·subst h1
  have e:gw b (b ^ (hf 1 - 1)) 1=1:=by
   show gw b (b ^ 0) 1=1
   rw [xC]
   unfold gw;rw [tu (by decide) (by omega)];simp [val]
  rw [e]
  show Nx b (b ^ 0 - 1) 1
  rw [xC]
  exact Gs n
 ·obtain ⟨K,rfl⟩:∃K,L=K+1:=⟨L - 1,by omega⟩
  have z:1<=K:=by omega
  rw [y9]
  have nx:=Bt n z
  have p:=bD (b:=b) (by omega) z
  rw [tD] at p
  have D:ln b (b ^ K+1)=K+1:=NQ n (by omega) (by rw [y9];omega) (by
   rw [zJ]
   have:b ^ K * 2<=b ^ K * b:=yp n (by omega)
   omega)
  have mp:=fZ n (show 1<=b ^ K+1 by omega) nx.mp.2
  rw [D] at mp
  have fr:(b ^ K+1) / b ^ ((K+1) / 2)=b ^ (hf (K+1) - 1):=by
   have I:b ^ K=b ^ (hf (K+1) - 1) * b ^ ((K+1) / 2):=by
    rw [<-xz];congr 1;unfold hf;omega
   have p2:=aC (show 0<b by omega) ((K+1) / 2)
   have B:=bD (b:=b) (by omega) (show 1<=(K+1) / 2 by omega)
   rw [tD] at B
   rw [I,xc,Int.add_mul_ediv_right _ _ (by omega),Int.ediv_eq_zero_of_lt (by decide) (by omega),xE]
  rw [fr] at mp
  rw [mp]
  exact nx
theorem aa3 {b f:Int} {L:Nat} (F:Fr b f L) (I:Fr b (f+1) L):Nx b (gw b f L) (gw b (f+1) L):=by
 have n:=F.b2
 obtain ⟨D,B⟩:=uO n F.L1
 have z:gw b f L<b ^ L - 1:=by rw [<-B];exact F.mono D (by have:=I.hi;omega)
 have s:=F.split.1
 have p:=aC (show 0<b by omega) (L / 2)
 have fp:=F.pos
 have:=zB (show 1<=f by omega) (show 0<=b ^ (L / 2) by omega)
 have nx:=Bs n F.mp (by omega) (by rw [F.ln];omega)
 rw [F.ln,F.front] at nx
 exact nx.2
theorem wu {b n:Int} (B:2<=b) (D:b<=36) (h0:0<=n) (h:n<=10 ^ 6):cnt b n<80000:=by
 obtain ⟨m,z⟩:=Gu B n.toNat
 rw [show ((n.toNat:Nat):Int)=n by omega] at z
 rw [<-mO B h0 z]
 have Z:=z.le
 by_cases O:m=0
 ·rw [O];unfold pl;rw [zm rfl];decide
 have J:1<=m:=by have:=z.mp.1;omega
 have l0:=eF B z.mp.1
 have g:=gQ B J
 have hp:=aC (show 0<b by omega) (hf (ln b m))
 have e1:b ^ hf (ln b m) * b ^ hf (ln b m)<=(36 * 10 ^ 3) * (36 * 10 ^ 3):=by
  rw [<-xz]
  have h1:hf (ln b m)+hf (ln b m)<=ln b m - 1+2:=by unfold hf;omega
  have h2:=bD (b:=b) (by omega) h1
  have I:b ^ (ln b m - 1+2)=b ^ (ln b m - 1) * b ^ 2:=xz ..
  rw [I] at h2
  have U:b ^ 2<=36 * 36:=by
   have:b ^ 2=b * b:=by rw [zJ,tD]
   rw [this]
   exact yK D D (by omega) (by decide)
  have h4:b ^ (ln b m - 1) * b ^ 2<=10 ^ 6 * (36 * 36):=yK (by omega) U (by have:=aC (show 0<b by omega) 2;omega) (by decide)
  have h5:(10:Int) ^ 6 * (36 * 36)=(36 * 10 ^ 3) * (36 * 10 ^ 3):=by decide
  omega
 have e2:=Uk (by omega) (by decide) e1
 have Y:=N8 B z.mp J
 have e4:=bD (b:=b) (by omega) (show ln b m / 2<=hf (ln b m) by unfold hf;omega)
 unfold uP at Y
 have:(36:Int) * 10 ^ 3+36 * 10 ^ 3<80000:=by decide
 omega
def cgF (b : Bool) (p : Int) (r : Nat → Int → Int) : Nat → Nat → Int → Int
  | 0, k, n => r k n
  | f + 1, k, n => r k n + if 0 < p ∧ p ≤ n ∧ (b = true → 0 < k) then cgF b p r f (k - 1) (n - p) else 0
def cg (b : Bool) : List Int → Nat → Int → Int
  | [] => fun k n => if n = 0 ∧ (b = true → k = 0) then 1 else 0
  | p :: ps => fun k n => cgF b p (cg b ps) n.toNat k n
theorem cgF_eq {b : Bool} {p : Int} {r : Nat → Int → Int} : ∀ f g k n, n.toNat ≤ f → n.toNat ≤ g → cgF b p r f k n = cgF b p r g k n := by
  intro f
  induction f with
  | zero =>
    intro g k n h _
    cases g with
    | zero => rfl
    | succ g => exact ((congrArg (r k n + ·) (if_neg (fun z => by omega))).trans (Int.add_zero _)).symm
  | succ f ih =>
    intro g k n h j
    cases g with
    | zero => exact (congrArg (r k n + ·) (if_neg (fun z => by omega))).trans (Int.add_zero _)
    | succ g =>
      refine congrArg (r k n + ·) ?_
      by_cases z : 0 < p ∧ p ≤ n ∧ (b = true → 0 < k)
      · exact (if_pos z).trans ((ih g (k - 1) (n - p) (by omega) (by omega)).trans (if_pos z).symm)
      · exact (if_neg z).trans (if_neg z).symm
theorem gK {b : Bool} {k : Nat} {n : Int} : cg b [] k n = if n = 0 ∧ (b = true → k = 0) then 1 else 0 := rfl
theorem d_ {b : Bool} {p : Int} {ps : List Int} {k : Nat} {n : Int} : cg b (p :: ps) k n = cg b ps k n + if 0 < p ∧ p ≤ n ∧ (b = true → 0 < k) then cg b (p :: ps) (k - 1) (n - p) else 0 := by
  refine (cgF_eq n.toNat (n.toNat + 1) k n (Nat.le_refl _) (Nat.le_succ _)).trans (congrArg (cg b ps k n + ·) ?_)
  by_cases z : 0 < p ∧ p ≤ n ∧ (b = true → 0 < k)
  · exact (if_pos z).trans ((cgF_eq n.toNat (n - p).toNat (k - 1) (n - p) (by omega) (Nat.le_refl _)).trans (if_pos z).symm)
  · exact (if_neg z).trans (if_neg z).symm
theorem wz {b:Bool} {p:Int} {ps:List Int} {Q:Nat->Int->Prop} (h:∀k n,(0<p->p<=n->(b=true->0<k)->Q (k - 1) (n - p))->Q k n):∀k n,Q k n:=by
 have:∀(m:Nat) (k:Nat) (n:Int),n.toNat<=m->Q k n:=by
  intro m
  induction m with
  | zero=>intro k n z;exact h k n λh1 h2 _=>by omega
  | succ m ih=>intro k n z;exact h k n λh1 h2 _=>ih _ _ (by omega)
 exact λk n=>this n.toNat k n (zx _)
theorem uQ {b:Bool}:∀(ps:List Int) (k:Nat) (n:Int),0<=cg b ps k n
 | [],k,n=>by rw [gK];split<;>omega
 | p::ps,k,n=>by
  refine wz (b:=b) (p:=p) (ps:=ps) (Q:=λk n=>0<=cg b (p::ps) k n) (λk n z=>?_) k n
  rw [d_]
  have:=uQ (b:=b) ps k n
  split
  ·rename_i h;have:=z h.1 h.2.1 h.2.2;omega
  ·omega
theorem Oc {b:Bool}:∀(ps:List Int) (k:Nat) (n:Int),n<0->cg b ps k n=0
 | [],k,n,h=>by rw [gK,zi (by omega)]
 | p::ps,k,n,h=>by rw [d_,Oc ps k n h,zi (by omega)];rfl
theorem Gz {b:Bool}:∀(ps:List Int) (k:Nat),cg b ps k 0=if (b=true->k=0) then 1 else 0
 | [],k=>by rw [gK];simp
 | p::ps,k=>by
  have e:¬(0<p/\p<=(0:Int)/\(b=true->0<k)):=λz=>by omega
  rw [d_,Gz ps k,zi e];exact xq _
theorem GC:∀(ps:List Int) (k:Nat) (n:Int),n<(k:Int)->cg true ps k n=0
 | [],k,n,h=>by rw [gK,zi (λz=>by have:=z.2 rfl;omega)]
 | p::ps,k,n,h=>by
  refine wz (b:=true) (p:=p) (ps:=ps) (Q:=λk n=>n<(k:Int)->cg true (p::ps) k n=0) (λk n B h=>?_) k n h
  rw [d_,GC ps k n h]
  split
  ·rename_i z
   have k0:=z.2.2 rfl
   rw [B z.1 z.2.1 z.2.2 (by omega)];rfl
  ·rfl
theorem oA {m:Int} (B:0<=m):∀(ps:List Int),(∀x∈ps,x<=m)->∀(k:Nat) (n:Int),m * (k:Int)<n->cg true ps k n=0
 | [],hp,k,n,h=>by
  have:0<=m * (k:Int):=Int.mul_nonneg B (by omega)
  rw [gK,zi (by omega)]
 | p::ps,hp,k,n,h=>by
  have J:p<=m:=hp p (by simp)
  refine wz (b:=true) (p:=p) (ps:=ps) (Q:=λk n=>m * (k:Int)<n->cg true (p::ps) k n=0) (λk n D h=>?_) k n h
  rw [d_,oA B ps (λx I=>hp x (by simp [I])) k n h]
  split
  ·rename_i z
   have k0:=z.2.2 rfl
   obtain ⟨j,rfl⟩:∃j,k=j+1:=⟨k - 1,by omega⟩
   have e:m * ((j+1:Nat):Int)=m * (j:Int)+m:=by rw [Int.natCast_add,Int.mul_add];simp
   rw [D z.1 z.2.1 z.2.2 (by rw [y9];omega)];rfl
  ·rfl
theorem uR (ps:List Int) (n:Int):cg true ps 0 n=if n=0 then 1 else 0:=by
 by_cases h:n=0
 ·subst h;rw [Gz];simp
 ·rw [zi h]
  by_cases h0:n<0
  ·exact Oc _ _ _ h0
  ·induction ps with
   | nil=>rw [gK,zi (by omega)]
   | cons p ps ih=>rw [d_,ih,zi (λz=>by have:=z.2.2 rfl;omega)];rfl
theorem wA {p:Int} {ps:List Int} {s:Nat} {t:Int} (n:0<p) (h:p<=t):cg true (p::ps) (s+1) t=cg true ps (s+1) t+cg true (p::ps) s (t - p):=by
 rw [d_,zm ⟨n,h,λ_=>Nat.succ_pos _⟩];rfl
theorem Ul {p:Int} {ps:List Int} {s:Nat} {t:Int} (n:0<p) (h:t<p+(s:Int)):cg true (p::ps) (s+1) t=cg true ps (s+1) t:=by
 by_cases z:p<=t
 ·rw [wA n z,GC _ s (t - p) (by omega),xq]
 ·rw [d_,zi (by omega),xq]
theorem Um {p:Int} {ps:List Int} {s:Nat} {t:Int} (D:0<p) (n:∀x∈ps,x<=p) (h:p * ((s:Int)+1)<t):cg true (p::ps) (s+1) t=cg true ps (s+1) t:=by
 have h':p * ((s+1:Nat):Int)<t:=by simpa using h
 rw [oA (m:=p) (by omega) (p::ps) (λx B=>by rcases zr.mp B with z|z;omega;exact n x z) (s+1) t h',oA (m:=p) (by omega) ps n (s+1) t h']
def at2 (n:List (List Int)) (s t:Nat):Option Int:=match n[s]? with
 | some r=>r[t]?
 | none=>none
theorem gA {n:List (List Int)} {s t:Nat} {v:Int} (h:at2 n s t=some v):∃r,n[s]? = some r/\r[t]? = some v:=by
 unfold at2 at h
 cases e:n[s]? with
 | none=>rw [e] at h;cases h
 | some r=>rw [e] at h;exact ⟨r,rfl,h⟩
theorem wB {n:List (List Int)} {s t:Nat} {r:List Int} (h:n[s]? = some r):at2 n s t=r[t]?:=by unfold at2;rw [h]
theorem GD {B:List (List Int)} {n t0:Nat} {r:List Int} {v:Int} (h:B[n]? = some r) (I:t0<r.length) (s t:Nat):at2 (B.set n (r.set t0 v)) s t=if s=n/\t=t0 then some v else at2 B s t:=by
 obtain ⟨J,_⟩:=zt.mp h
 by_cases D:s=n
 ·subst D
  rw [wB (r:=r.set t0 v) (by rw [zM J]),wB h]
  by_cases z:t=t0
  ·subst z;rw [zM I,zm ⟨rfl,rfl⟩]
  ·rw [zy (Ne.symm z),zi (λy=>z y.2)]
 ·rw [zi (λy=>D y.1)]
  unfold at2
  rw [zy (Ne.symm D)]
structure Shape (N K:Nat) (ms:List (List Int)):Prop where
 len:K<ms.length
 row:∀(s:Nat) (r:List Int),ms[s]? = some r->N<r.length
theorem Shape.set {N K s t:Nat} {n:List (List Int)} {r:List Int} {v:Int} (h:Shape N K n) (B:n[s]? = some r):Shape N K (n.set s (r.set t v)):=by
 refine ⟨by rw [yc];exact h.len,λi D e=>?_⟩
 by_cases z:i=s
 ·subst z
  rw [zM (zt.mp B).1] at e
  cases e
  rw [yc];exact h.row i r B
 ·rw [zy (Ne.symm z)] at e
  exact h.row i D e
structure Tab (ps:List Int) (N K:Nat) (ms:List (List Int)):Prop where
 qT:Shape N K ms
 val:∀s t:Nat,s<=K->t+K<=N+s->at2 ms s t=some (cg true ps s t)
structure Ek (p:Int) (ps:List Int) (N K i:Nat) (ms:List (List Int)):Prop where
 qT:Shape N K ms
 val:∀s t:Nat,s<=K->t+K<=N+s->at2 ms s t=some (cg true (if s<=i then p::ps else ps) s t)
structure wC (p:Int) (ps:List Int) (N K i:Nat) (c:Int) (ms:List (List Int)):Prop where
 qT:Shape N K ms
 val:∀s t:Nat,s<=K->t+K<=N+s->at2 ms s t=some (cg true (if s<=i\/(s=i+1/\(t:Int)<c) then p::ps else ps) s t)
section
variable {p:Int} {ps:List Int} {N K i:Nat} {c:Int} {ms:List (List Int)}
theorem Tab.start (h:Tab ps N K ms):Ek p ps N K 0 ms:=⟨h.qT,λs t h1 h2=>by
 rw [h.val s t h1 h2]
 by_cases z:s<=0
 ·have:s=0:=by omega
  subst this
  rw [zm z,uR,uR]
 ·rw [zi z]⟩
theorem Ek.fin (h:Ek p ps N K K ms):Tab (p::ps) N K ms:=⟨h.qT,λs t h1 h2=>by rw [h.val s t h1 h2,zm h1]⟩
theorem Ek.go (B:0<p) (h:Ek p ps N K i ms):wC p ps N K i (p+(i:Int)) ms:=⟨h.qT,λs t h1 h2=>by
 rw [h.val s t h1 h2]
 by_cases z:s<=i
 ·rw [zm z,zm (.inl z)]
 ·rw [zi z]
  by_cases y:s=i+1/\(t:Int)<p+(i:Int)
  ·obtain ⟨rfl,n⟩:=y
   rw [zm (.inr ⟨rfl,n⟩),Ul B n]
  ·rw [zi (by omega)]⟩
theorem wC.step {r:List Int} {t0:Nat} {v:Int} (B:0<p) (h:wC p ps N K i c ms) (Y:i+1<=K) (O:c=(t0:Int)) (J:p<=c) (U:t0+K<=N+(i+1)) (n:ms[i+1]? = some r) (D:v=cg true ps (i+1) c+cg true (p::ps) i (c - p)) :
  wC p ps N K i (c+1) (ms.set (i+1) (r.set t0 v)):=by
 subst O
 have I:t0<r.length:=by have:=h.qT.row _ r n;omega
 refine ⟨h.qT.set n,λs t h1 h2=>?_⟩
 rw [GD n I]
 by_cases z:s=i+1/\t=t0
 ·obtain ⟨rfl,rfl⟩:=z
  rw [zm ⟨rfl,rfl⟩,zm (.inr ⟨rfl,by omega⟩),D,wA B J]
 ·rw [zi z,h.val s t h1 h2]
  by_cases y:s<=i\/(s=i+1/\(t:Int)<(t0:Int))
  ·rw [zm y,zm (by omega)]
  ·rw [zi y,zi (by omega)]
theorem wC.read (h:wC p ps N K i c ms) (D:0<p) (B:i+1<=K) {t0:Nat} (n:c=(t0:Int)) (I:p+(i:Int)<=c) (z:t0+K<=N+(i+1)) :
  at2 ms (i+1) t0=some (cg true ps (i+1) c)/\at2 ms i (c - p).toNat=some (cg true (p::ps) i (c - p)):=by
 subst n
 refine ⟨?_,?_⟩
 ·rw [h.val (i+1) t0 B z,zi (by omega)]
 ·have e:(((t0:Int) - p).toNat:Int)=(t0:Int) - p:=by omega
  rw [h.val i _ (by omega) (by omega),zm (.inl (zx _)),e]
theorem wC.fin (h:wC p ps N K i c ms) (B:0<p) (n:∀x∈ps,x<=p) (D:∀t:Nat,t+K<=N+(i+1)->c<=(t:Int)->p * ((i:Int)+1)<(t:Int)):Ek p ps N K (i+1) ms:=⟨h.qT,λs t h1 h2=>by
 rw [h.val s t h1 h2]
 by_cases z:s<=i\/(s=i+1/\(t:Int)<c)
 ·rw [zm z,zm (by omega)]
 ·rw [zi z]
  by_cases y:s<=i+1
  ·have e:s=i+1:=by omega
   subst e
   rw [zm y,Um B n (D t h2 (by omega))]
  ·rw [zi y]⟩
theorem Tab.nil:Tab [] N K (([1]++List.replicate N 0)::List.replicate K (List.replicate (N+1) 0)):=by
 refine ⟨⟨by simp,λs r e=>?_⟩,λs t h1 h2=>?_⟩
 ·cases s with
  | zero=>simp at e;subst e;simp
  | succ s=>
   rw [List.getElem?_cons_succ,zU] at e
   split at e
   ·cases e;simp
   ·cases e
 ·rw [gK]
  cases s with
  | zero=>
   rw [wB (r:=[1]++List.replicate N 0) rfl]
   cases t with
   | zero=>simp
   | succ t=>
    have:t<N:=by omega
    simp [zU,this]
    omega
  | succ s=>
   rw [wB (r:=List.replicate (N+1) 0) (by rw [List.getElem?_cons_succ,zU,zm (by omega)])]
   rw [zU,zm (by omega),zi (λz=>by have:=z.2 rfl;omega)]
end
structure Cnt (ps:List Int) (N:Nat) (xs:List Int):Prop where
 len:xs.length=N+1
 val:∀t:Nat,t<=N->xs[t]? = some (cg false ps 0 t)
section
variable {p:Int} {ps:List Int} {N:Nat} {c:Int} {xs:List Int}
theorem Cnt.nil:Cnt [] N ([1]++List.replicate N 0):=⟨by simp,λt n=>by
 rw [gK]
 cases t with
 | zero=>simp
 | succ t=>
  have:t<N:=by omega
  simp [zU,this]
  omega⟩
end
def okW (b:Bool) (k:Nat) (l:List Int):Bool:=!b || decide (l.length=k)
theorem GF {b d:Int} (n:2<=b) (B:1<=d) (z:d<b) (k:Nat):gJ b (d * b ^ (k+1)+d) (d::(List.replicate k 0++[d])):=
 ⟨λe hd=>by
  rcases zr.mp hd with rfl|hd
  ·omega
  ·rcases zN.mp hd with hd|hd
   ·have:=List.eq_of_mem_replicate hd;omega
   ·rw [zA] at hd;omega,by
  rw [fB,jj,lC,zj,zE,yd];omega,by simp,.inr (by simp;omega)⟩
theorem Uo {b d:Int} (n:2<=b) (B:1<=d) (z:d<b) (k:Nat):Mp b (d * b ^ (k+1)+d):=by
 have p:=aC (show 0<b by omega) (k+1)
 have p2:0<=d * b ^ (k+1):=Int.mul_nonneg (by omega) (by omega)
 refine ⟨by omega,?_⟩
 unfold bQ
 rw [<-(GF n B z k).fg n (by omega)]
 refine yj ?_
 rw [yr,yI,List.reverse_replicate]
 simp
theorem AM.half {b n m:Int} (z:2<=b) (Y:1<=n) (h:AM b n m):n<=2 * m:=by
 have l0:=eF z (show 0<=n by omega)
 have I:=gQ z Y
 have B:=iH z (show 0<=n by omega)
 by_cases hL:ln b n=1
 ·rw [hL,tD] at B
  have:=h.top n (fD (by omega) B) (yx _)
  omega
 ·obtain ⟨k,Z⟩:∃k,ln b n=k+2:=⟨ln b n - 2,by omega⟩
  rw [Z] at I B
  have e1:k+2 - 1=k+1:=rfl
  rw [e1] at I
  have p:=aC (show 0<b by omega) (k+1)
  have p2:b<=b ^ (k+1):=by
   have:=bD (show 1<=b by omega) (show 1<=k+1 by omega)
   rw [tD] at this;omega
  generalize D:b ^ (k+1)=P at *
  have U:n<b * P:=by rw [<-D,yG,<-zJ];exact B
  have q1:=Int.mul_ediv_add_emod n P
  have q2:=yA n p
  have q3:=yN n (show P≠0 by omega)
  have J:1<=n / P:=(Int.le_ediv_iff_mul_le p).mpr (by omega)
  have d2:n / P<b:=Int.ediv_lt_of_lt_mul p U
  generalize hd:n / P=d at *
  have hx:P * d=d * P:=yG _ _
  have x1:P<=d * P:=by
   have:=zB J (show 0<=P by omega);omega
  have M1:Mp b (d * P+d):=by rw [<-D];exact Uo z J d2 k
  by_cases c:d * P+d<=n
  ·have:=h.top _ M1 c
   omega
  ·by_cases d3:d=1
   ·subst d3
    have h1:=j8 z (k+1)
    rw [D] at h1
    have:=h.top _ h1 (by omega)
    omega
   ·have O:Mp b ((d - 1) * P+(d - 1)):=by rw [<-D];exact Uo z (by omega) (by omega) k
    have e2:(d - 1) * P=d * P - P:=by rw [Int.sub_mul,xm]
    rw [e2] at O
    have x2:2 * P<=d * P:=zB (by omega) (by omega)
    have:=h.top _ O (by omega)
    omega
theorem AM.one {b n m:Int} (B:2<=b) (z:1<=n) (h:AM b n m):1<=m:=h.top 1 (fD (by decide) (by omega)) z
inductive Fw (b:Int):Int->List Int->Prop
 | nil:Fw b 0 []
 | cons {n m:Int} {L:List Int}:1<=n->AM b n m->Fw b (n - m) L->Fw b n (m::L)
theorem Fw.uniq {b n:Int} {L L':List Int} (h:Fw b n L) (h':Fw b n L'):L=L':=by
 induction h generalizing L' with
 | nil=>
  cases h' with
  | nil=>rfl
  | cons h _ _=>omega
 | cons h1 h2 _ ih=>
  cases h' with
  | nil=>omega
  | cons _ g2 g3=>
   have e:=h2.uniq g2
   subst e
   rw [ih g3]
theorem Fw.len {b:Int} (B:2<=b) {n:Int} {L:List Int} (h:Fw b n L):∀k:Nat,n<2 ^ k->L.length<=k:=by
 induction h with
 | nil=>intro k _;exact ye _
 | @cons n m L h1 h2 _ ih=>
  intro k z
  cases k with
  | zero=>simp at z;omega
  | succ k=>
   have:=h2.half B h1
   rw [zJ] at z
   have:=ih k (by omega)
   simp;omega
theorem Fw.all {b n:Int} (B:2<=b) {L:List Int} (h:Fw b n L):∀x∈L,1<=x/\bQ b x=true/\x<=n:=by
 induction h with
 | nil=>intro x z;simp at z
 | cons h1 h2 h3 ih=>
  intro x z
  rcases zr.mp z with rfl|z
  ·exact ⟨h2.one B h1,h2.mp.2,h2.le⟩
  ·obtain ⟨a1,a2,a3⟩:=ih x z
   have:=h2.one B h1
   exact ⟨a1,a2,by omega⟩
def tw (b n:Int):List Int:=(bA b (n / 2)).filter λx=>bQ b (n - x)
theorem range_getD (xs:List Int):(List.range xs.length).map (λi=>xs.getD i 0)=xs:=by
 apply List.ext_getElem?
 intro i
 rw [zO]
 by_cases h:i<xs.length
 ·rw [List.getElem?_range h,zg h]
  show some (xs.getD i 0)=some xs[i]
  rw [zn,zg h];rfl
 ·rw [List.getElem?_eq_none (by simpa using h),List.getElem?_eq_none (by omega)];rfl
theorem wD {α:Type} (t:Int->Bool) (f:Int->α) (xs:List Int):((List.range xs.length).filter (λi=>t (xs.getD i 0))).map (λi=>f (xs.getD i 0))=(xs.filter t).map f:=by
 have h:(xs.filter t).map f=(((List.range xs.length).map (λi=>xs.getD i 0)).filter t).map f:=by rw [range_getD]
 rw [h,List.filter_map,List.map_map]
 rfl
inductive Sm (b:Int):Nat->Int->Prop
 | zero:Sm b 0 0
 | add {k:Nat} {n p:Int}:Sm b k n->1<=p->bQ b p=true->Sm b (k+1) (n+p)
theorem Sm.nn {b n:Int} {k:Nat} (h:Sm b k n):0<=n:=by
 induction h with
 | zero=>omega
 | add _ h1 _ ih=>omega
theorem Sm.none {b n:Int} (h:Sm b 0 n):n=0:=by cases h;rfl
theorem Sm.cut {b n:Int} {k:Nat} (h:Sm b (k+1) n):∃p,1<=p/\bQ b p=true/\p<=n/\Sm b k (n - p):=by
 cases h with
 | @add _ m p h1 h2 h3=>
  have:=h1.nn
  exact ⟨p,h2,h3,by omega,by rw [Int.add_sub_cancel];exact h1⟩
theorem GJ {b:Int} (z:2<=b):∀n:Nat,Sm b n (n:Int)
 | 0=>.zero
 | n+1=>by
  have:=Sm.add (GJ z n) (show (1:Int)<=1 by decide) (pL (by decide) (by omega))
  exact this
theorem least {P:Nat->Prop}:∀n:Nat,P n->∃k,k<=n/\P k/\∀j,j<k->¬P j
 | 0,h=>⟨0,zx _,h,λj D=>absurd D (by omega)⟩
 | n+1,h=>by
  by_cases B:∃m,m<=n/\P m
  ·obtain ⟨m,J,z⟩:=B
   obtain ⟨k,h1,h2,I⟩:=least m z
   exact ⟨k,by omega,h2,I⟩
  ·exact ⟨n+1,zx _,h,λj D z=>B ⟨j,by omega,z⟩⟩
theorem aa4 {b n:Int} (z:2<=b) (B:0<=n):∃k,k<=n.toNat/\Sm b k n/\∀j,j<k->¬Sm b j n:=by
 have h:=GJ z n.toNat
 rw [show ((n.toNat:Nat):Int)=n by omega] at h
 exact least n.toNat h
noncomputable def nd (b n:Int):Nat:=open Classical in if h:∃k,Sm b k n/\∀j,j<k->¬Sm b j n then h.choose else 0
theorem oE {b n:Int} (D:2<=b) (B:0<=n):Sm b (nd b n) n/\(∀j,j<nd b n->¬Sm b j n):=by
 obtain ⟨k,h1,h2,I⟩:=aa4 D B
 have z:∃k,Sm b k n/\∀j,j<k->¬Sm b j n:=⟨k,h2,I⟩
 unfold nd
 rw [dif_pos z]
 exact z.choose_spec
theorem El {b n:Int} {k:Nat} (B:2<=b) (h:Sm b k n):nd b n<=k:=by
 have s:=oE B h.nn
 by_cases z:nd b n<=k
 ·exact z
 ·exact absurd h (s.2 k (by omega))
theorem wG {b:Int} (n:2<=b):nd b 0=0:=by have:=El n (Sm.zero (b:=b));omega
theorem Od {b n:Int} (B:2<=b) (D:1<=n):1<=nd b n:=by
 by_cases z:1<=nd b n
 ·exact z
 ·have s:=(oE B (show 0<=n by omega)).1
  rw [show nd b n=0 by omega] at s
  have:=s.none
  omega
theorem Oe {b n:Int} (z:2<=b) (B:1<=n):nd b n<=1 ↔ bQ b n=true:=by
 constructor
 ·intro h
  have p:=Od z B
  have s:=(oE z (show 0<=n by omega)).1
  rw [show nd b n=0+1 by omega] at s
  obtain ⟨q,h1,h2,I,D⟩:=s.cut
  have:=D.none
  rw [show n=q by omega];exact h2
 ·intro h
  have:=El z (Sm.add (Sm.zero (b:=b)) B h)
  rw [xE] at this
  exact this
theorem aa5 {b n p:Int} (B:2<=b) (J:1<=p) (I:bQ b p=true) (O:p<=n):nd b n<=nd b (n - p)+1:=by
 have D:=(oE B (show 0<=n - p by omega)).1
 have z:=Sm.add D J I
 rw [Int.sub_add_cancel] at z
 exact El B z
structure Way (b:Int) (m:Nat) (n:Int) (L:List Int):Prop where
 len:L.length=m
 sum:L.sum=n
 mem:∀x∈L,1<=x/\bQ b x=true
 fall:L.Pairwise (λx y=>y<=x)
theorem Uq {b:Int}:∀{L:List Int},(∀x∈L,1<=x/\bQ b x=true)->Sm b L.length L.sum
 | [],_=>.zero
 | x::r,h=>by
  have n:=h x zo
  have:=Sm.add (Uq (L:=r) λy z=>h y (zp _ z)) n.1 n.2
  rw [zH,xk,xc]
  exact this
theorem Way.sm {b n:Int} {m:Nat} {L:List Int} (h:Way b m n L):Sm b m n:=by
 have:=Uq h.mem
 rw [h.len,h.sum] at this;exact this
theorem GK {b p:Int} (p1:1<=p) (O:bQ b p=true):∀{L:List Int} {m:Nat} {n:Int},Way b m n L->∃J,Way b (m+1) (n+p) J/\∀y∈J,y=p\/y∈L
 | [],m,n,h=>by
  refine ⟨[p],⟨by have:=h.len;simp at this;simp [this],by have:=h.sum;simp at this;simp [<-this],λx I=>?_,by simp⟩,λy B=>by simp at B;exact .inl B⟩
  simp at I;subst I;exact ⟨p1,O⟩
 | x::r,m,n,h=>by
  have hf:=List.pairwise_cons.mp h.fall
  by_cases I:x<=p
  ·refine ⟨p::x::r,⟨by simp [<-h.len],by rw [xk,h.sum];omega,λy B=>?_,List.pairwise_cons.mpr ⟨λy B=>?_,h.fall⟩⟩,λy B=>?_⟩
   ·rcases zr.mp B with rfl|B
    ·exact ⟨p1,O⟩
    ·exact h.mem y B
   ·rcases zr.mp B with rfl|B
    ·exact I
    ·have:=hf.1 y B;omega
   ·rcases zr.mp B with rfl|B
    ·exact .inl rfl
    ·exact .inr B
  ·have U:Way b r.length r.sum r:=⟨rfl,rfl,λy B=>h.mem y (zp _ B),hf.2⟩
   obtain ⟨J,D,o'⟩:=GK p1 O U
   have es:=h.sum
   rw [xk] at es
   refine ⟨x::J,⟨by rw [zH,D.len,<-h.len,zH],by rw [xk,D.sum];omega,λy B=>?_,List.pairwise_cons.mpr ⟨λy B=>?_,D.fall⟩⟩,λy B=>?_⟩
   ·rcases zr.mp B with rfl|B
    ·exact h.mem _ zo
    ·exact D.mem y B
   ·rcases o' y B with rfl|z
    ·omega
    ·exact hf.1 y z
   ·rcases zr.mp B with rfl|B
    ·exact .inr zo
    ·rcases o' y B with z|z
     ·exact .inl z
     ·exact .inr (zp _ z)
theorem Sm.way {b n:Int} {m:Nat} (h:Sm b m n):∃L,Way b m n L:=by
 induction h with
 | zero=>exact ⟨[],rfl,rfl,λx B=>by simp at B,.nil⟩
 | add _ p1 pm ih=>
  obtain ⟨L,w⟩:=ih
  obtain ⟨D,z,_⟩:=GK p1 pm w
  exact ⟨D,z⟩
theorem Way.head {b n p:Int} {m:Nat} {L:List Int} (h:Way b (m+1) n (p::L)):Way b m (n - p) L/\1<=p/\bQ b p=true/\∀y∈L,y<=p:=by
 have hf:=List.pairwise_cons.mp h.fall
 have es:=h.sum
 rw [xk] at es
 have B:=h.len
 rw [zH] at B
 exact ⟨⟨by omega,by omega,λy z=>h.mem y (zp _ z),hf.2⟩,(h.mem p zo).1,(h.mem p zo).2,hf.1⟩
theorem Way.cons {b n:Int} {m:Nat} {L:List Int} (h:Way b (m+1) n L):∃p r,L=p::r:=by
 cases L with
 | nil=>have:=h.len;simp at this
 | cons p r=>exact ⟨p,r,rfl⟩
theorem Og {p:Int}:∀{L:List Int},(∀y∈L,y<=p)->L.sum<=p * (L.length:Int)
 | [],_=>by simp
 | x::r,h=>by
  have z:=Og (L:=r) λy n=>h y (zp _ n)
  have B:=h x zo
  rw [xk,zH]
  have e:p * ((r.length+1:Nat):Int)=p * (r.length:Int)+p:=by push_cast;rw [Int.mul_add,Int.mul_one]
  rw [e];omega
inductive Gt (b:Int):Nat->Int->List Int->Prop
 | nil:Gt b 0 0 []
 | cons {m:Nat} {n p:Int} {L:List Int}:1<=p->bQ b p=true->Gt b m (n - p) L->(∀q,p<q->bQ b q=true->¬Sm b m (n - q))->Gt b (m+1) n (p::L)
theorem Gt.way {b n:Int} {m:Nat} {L:List Int} (h:Gt b m n L):Way b m n L:=by
 induction h with
 | nil=>exact ⟨rfl,rfl,λx D=>by simp at D,.nil⟩
 | @cons m n p L p1 pm g no ih=>
  refine ⟨by rw [zH,ih.len],by rw [xk,ih.sum];omega,λx D=>?_,List.pairwise_cons.mpr ⟨?_,ih.fall⟩⟩
  ·rcases zr.mp D with rfl|D
   ·exact ⟨p1,pm⟩
   ·exact ih.mem x D
  ·cases m with
   | zero=>intro y B;rw [List.length_eq_zero_iff.mp ih.len] at B;simp at B
   | succ k=>
    obtain ⟨q,r,rfl⟩:=ih.cons
    obtain ⟨w,q1,I,J⟩:=ih.head
    have O:q<=p:=by
     by_cases z:q<=p
     ·exact z
     ·exfalso
      refine no q (by omega) I ?_
      have:=Sm.add w.sm p1 pm
      rw [show n - p - q+p=n - q by omega] at this
      exact this
    intro y B
    rcases zr.mp B with rfl|B
    ·exact O
    ·have:=J y B;omega
theorem Yl {b n p:Int} {m:Nat} (h:p * ((m+1:Nat):Int)<n) (O:∀q,p<q->q<=n->bQ b q=true->¬Sm b m (n - q)):¬Sm b (m+1) n:=λs=>by
 obtain ⟨L,w⟩:=s.way
 obtain ⟨q,r,rfl⟩:=w.cons
 obtain ⟨D,q1,I,J⟩:=w.head
 have h0:=D.sm.nn
 have U:=Og (p:=q) (L:=q::r) (λy B=>by
  rcases zr.mp B with rfl|B
  ·omega
  ·exact J y B)
 rw [w.sum,w.len] at U
 by_cases z:p<q
 ·exact O q z (by omega) I D.sm
 ·have:q * ((m+1:Nat):Int)<=p * ((m+1:Nat):Int):=zB (by omega) (by omega)
  omega
theorem Oh {b n:Int} {m:Nat} (h:Sm b m n) (B:n<=0):m=0:=by
 cases m with
 | zero=>rfl
 | succ k=>
  obtain ⟨p,h1,h2,D,z⟩:=h.cut
  have:=z.nn
  omega
theorem IW {b n:Int} (B:2<=b) (O:1<=n):∃p,1<=p/\p<=n/\bQ b p=true/\n - p<=p:=by
 by_cases hs:n<b
 ·exact ⟨n,O,yx _,pL (by omega) hs,by omega⟩
 have L1:=eF B (show 0<=n by omega)
 have lg:=gQ B O
 have J:=iH B (show 0<=n by omega)
 obtain ⟨k,hk⟩:∃k,ln b n=k+2:=by
  refine ⟨ln b n - 2,?_⟩
  by_cases z:ln b n=1
  ·rw [z,tD] at J;omega
  ·omega
 rw [hk] at lg J
 rw [show k+2 - 1=k+1 by omega] at lg
 have Y:b ^ (k+2)=b ^ (k+1) * b:=zJ _ _
 have Z:0<b ^ (k+1):=aC (by omega) _
 -- the first aeA
 obtain ⟨d,r,hd,r0,r1⟩:∃d r:Int,n=d * b ^ (k+1)+r/\0<=r/\r<b ^ (k+1):=
  ⟨n / b ^ (k+1),n % b ^ (k+1),by have:=Int.mul_ediv_add_emod n (b ^ (k+1));rw [yG] at this;omega,yN _ (by omega),yA _ Z⟩
 have U:1<=d:=by
  by_cases z:1<=d
  ·exact z
  ·have:d * b ^ (k+1)<=0 * b ^ (k+1):=zB (by omega) (by omega)
   omega
 have d2:d<b:=by
  by_cases z:d<b
  ·exact z
  ·have:b * b ^ (k+1)<=d * b ^ (k+1):=zB (by omega) (by omega)
   rw [Y,yG] at J
   omega
 have bp:b<=b ^ (k+1):=by
  have:=bD (b:=b) (by omega) (show 1<=k+1 by omega)
  rwa [tD] at this
 have dd:∀e:Int,1<=e->e<b->bQ b (e * b ^ (k+1)+e)=true:=λe e1 e2=>by
  have D:=GF B e1 e2 k
  have z:=D.fg B (D.nn B)
  unfold bQ
  rw [yl,<-z]
  simp
 have ge:b ^ (k+1)<=d * b ^ (k+1):=by
  have:1 * b ^ (k+1)<=d * b ^ (k+1):=zB U (by omega)
  omega
 by_cases h1:d<=r
 ·exact ⟨d * b ^ (k+1)+d,by omega,by omega,dd d U d2,by omega⟩
 by_cases h2:2<=d
 ·have e:(d - 1) * b ^ (k+1)=d * b ^ (k+1) - b ^ (k+1):=by rw [Int.sub_mul,xm]
  have ge2:2 * b ^ (k+1)<=d * b ^ (k+1):=zB h2 (by omega)
  refine ⟨(d - 1) * b ^ (k+1)+(d - 1),by omega,by omega,dd (d - 1) (by omega) (by omega),by omega⟩
 ·have d0:d=1:=by omega
  subst d0
  have I:r=0:=by omega
  subst I
  rw [xm,xq] at hd
  refine ⟨n - 1,by omega,by omega,?_,by omega⟩
  rw [hd]
  exact (j8 B (k+1)).2
theorem Em {b:Int} (B:2<=b):∀(k:Nat) {n:Int},0<=n->n<2 ^ k->nd b n<=k
 | 0,n,h0,h=>by
  have:n=0:=by have e:(2:Int) ^ 0=1:=rfl;omega
  subst this
  rw [wG B];exact zx _
 | k+1,n,h0,h=>by
  by_cases z:n=0
  ·subst z;rw [wG B];omega
  obtain ⟨p,p1,pn,D,I⟩:=IW B (show 1<=n by omega)
  have e:(2:Int) ^ (k+1)=2 ^ k * 2:=zJ _ _
  have J:=Em B k (n:=n - p) (by omega) (by omega)
  have:=aa5 B p1 D pn
  omega
theorem Ur:∀(ps:List Int) (k:Nat) (n:Int),cg true ps k n<=((ps.length:Nat):Int) ^ k
 | [],k,n=>by
  rw [gK]
  cases k with
  | zero=>split<;>simp
  | succ k=>rw [zi (λz=>by have:=z.2 rfl;omega)];simp [zJ]
 | p::ps,k,n=>by
  refine wz (b:=true) (p:=p) (ps:=ps) (Q:=λk n=>cg true (p::ps) k n<=(((p::ps).length:Nat):Int) ^ k) (λk n B=>?_) k n
  rw [d_]
  have h1:=Ur ps k n
  rw [zH] at B ⊢
  have D:((ps.length:Nat):Int) ^ k<=(((ps.length+1:Nat)):Int) ^ k:=by
   have:ps.length ^ k<=(ps.length+1) ^ k:=Nat.pow_le_pow_left (by omega) k
   exact_mod_cast this
  by_cases c:0<p/\p<=n/\(true=true->0<k)
  ·rw [zm c]
   have h2:=B c.1 c.2.1 c.2.2
   obtain ⟨j,rfl⟩:∃j,k=j+1:=⟨k - 1,by have:=c.2.2 rfl;omega⟩
   rw [y9] at h2
   have:ps.length ^ (j+1)+(ps.length+1) ^ j<=(ps.length+1) ^ (j+1):=by
    rw [Nat.pow_succ,Nat.pow_succ,Nat.mul_add,Nat.mul_one]
    have:ps.length ^ j * ps.length<=(ps.length+1) ^ j * ps.length:=Nat.mul_le_mul_right _ (Nat.pow_le_pow_left (by omega) j)
    omega
   have I:((ps.length:Nat):Int) ^ (j+1)+(((ps.length+1:Nat)):Int) ^ j<=(((ps.length+1:Nat)):Int) ^ (j+1):=by exact_mod_cast this
   rw [y9]
   omega
  ·rw [zi c];omega
end M
namespace TX
open PySem Builtin Builtin.Str StrLaws
def sep:Str:=" + "
theorem cN (x:Str):x.cps.toList.length=x.length:=by simp [Str.length]
theorem tK {a b:Str} (h:a.cps.toList=b.cps.toList):a=b:=Str.ext' (Array.toList_inj.mp h)
theorem j9 (a b:Str):(a++b).cps.toList=a.cps.toList++b.cps.toList:=by rw [Str.cps_append];simp
def tx (n:Int):Str:=Str.ofString (toString n)
open PySem.W.KIN NumText
theorem Bw (m:Nat):(tx (m:Int)).cps.toList=(Nat.toDigits 10 m).map Char.toNat:=signs_num m
theorem Ym (m:Nat):AllDigits (tx (m:Int)).cps.toList:=by
 intro c z
 rw [Bw] at z
 obtain ⟨B,n,e⟩:=yb.mp z
 have r:=PyProof.Rows.digit_range (Nat.isDigit_of_mem_toDigits (by decide) (by decide) n)
 rw [<-e]
 exact r
theorem wI:∀(k m:Nat),1<=k->m<10 ^ k->(Nat.toDigits 10 m).length<=k
 | 0,_,h,_=>by omega
 | k+1,m,_,hm=>by
  by_cases h:m<10
  ·rw [x6 h];simp
  ·have n:m % 10<10:=Nat.mod_lt m (by decide)
   have t:Nat.toDigits 10 (m / 10)++Nat.toDigits 10 (m % 10)=Nat.toDigits 10 (10 * (m / 10)+m % 10):=Nat.toDigits_append_toDigits (by decide) (by omega) n
   rw [Nat.div_add_mod] at t
   have e:10 ^ (k+1)=10 ^ k * 10:=Nat.pow_succ ..
   have k1:1<=k:=by
    cases k with
    | zero=>simp at hm;omega
    | succ k=>omega
   have z:=wI k (m / 10) k1 (by omega)
   rw [<-t,zj,x6 n]
   simp
   omega
theorem Oi:∀(m:Nat),1<=m->∃c r,Nat.toDigits 10 m=c::r/\c.toNat≠48:=by
 intro m
 induction m using Nat.strongRecOn with
 | _ m ih=>
  intro h1
  by_cases h:m<10
  ·rw [x6 h]
   refine ⟨_,[],rfl,?_⟩
   have all:∀d:Nat,d<10->1<=d->(Nat.digitChar d).toNat≠48:=by decide
   exact all m h h1
  ·have n:m % 10<10:=Nat.mod_lt m (by decide)
   have t:Nat.toDigits 10 (m / 10)++Nat.toDigits 10 (m % 10)=Nat.toDigits 10 (10 * (m / 10)+m % 10):=Nat.toDigits_append_toDigits (by decide) (by omega) n
   rw [Nat.div_add_mod] at t
   obtain ⟨c,r,e,z⟩:=ih (m / 10) (by omega) (by omega)
   rw [<-t,e]
   exact ⟨c,_,rfl,z⟩
def Oj:Str:="0123456789"
theorem Yn:∀c:Nat,48<=c/\c<=57->L2.inS ⟨#[c]⟩ Oj=true:=by
 intro c n
 have all:∀k:Fin 10,L2.inS ⟨#[48+k.val]⟩ Oj=true:=by decide
 have:=all ⟨c - 48,by omega⟩
 rw [show 48+(⟨c - 48,by omega⟩:Fin 10).val=c by show 48+(c - 48)=c;omega] at this
 exact this
end TX
namespace TX
open PySem Builtin Builtin.Str StrLaws
open PySem.W.KIN NumText
theorem R_:∀(k:Nat) (l:List Nat),l.length=k->(∀c∈l,48<=c/\c<=57)->(∃c r,l=c::r/\c≠48)->∃m,1<=m/\m<10 ^ k/\(Nat.toDigits 10 m).map Char.toNat=l:=by
 have O:∀d:Nat,d<10->(Nat.digitChar d).toNat=48+d:=by decide
 intro k
 induction k with
 | zero=>
  intro l n _ ⟨c,r,e,_⟩
  rw [e] at n;simp at n
 | succ k ih=>
  intro l n hd J
  have B:l≠[]:=λz=>by rw [z] at n;simp at n
  obtain ⟨i,x,rfl⟩:∃i x,l=i++[x]:=⟨l.dropLast,l.getLast B,(yL B).symm⟩
  have hx:=hd x (by simp)
  have I:i.length=k:=by simpa using n
  by_cases z:i=[]
  ·subst z
   obtain ⟨c,r,e,D⟩:=J
   have:x=c:=by simpa using yn List.head? e
   subst this
   refine ⟨x - 48,by omega,?_,?_⟩
   ·have:k=0:=by simpa using I.symm
    subst this
    omega
   ·rw [x6 (by omega)]
    simp only [yu,List.map_nil,xy]
    rw [O _ (by omega),show 48+(x - 48)=x by omega]
  ·obtain ⟨m,Z,Y,U⟩:=ih i I (λc D=>hd c (by simp [D])) (by
    obtain ⟨c,r,e,D⟩:=J
    cases i with
    | nil=>exact absurd rfl z
    | cons y ys=>
     rw [List.cons_append,List.cons.injEq] at e
     exact ⟨y,ys,rfl,by rw [e.1];exact D⟩)
   refine ⟨10 * m+(x - 48),by omega,?_,?_⟩
   ·rw [Nat.pow_succ];omega
   ·have t:Nat.toDigits 10 m++Nat.toDigits 10 (x - 48)=Nat.toDigits 10 (10 * m+(x - 48)):=Nat.toDigits_append_toDigits (by decide) (by omega) (by omega)
    rw [<-t,yf,U,x6 (by omega)]
    simp only [yu,List.map_nil]
    rw [O _ (by omega),show 48+(x - 48)=x by omega]
def okW (w:Str):Bool:=decide (1<=w.length) && decide (w.length<=40) && !(w.cps.toList.head? == some 48) && w.cps.toList.all λc=>decide (48<=c) && decide (c<=57)
def nm (w:Str):Option Int:=if okW w then intText? w else none
theorem Sd:∀c:Nat,c<128->¬(48<=c/\c<=57)->L2.inS ⟨#[c]⟩ Oj=false:=by
 intro c z n
 have all:∀k:Fin 128,¬(48<=k.val/\k.val<=57)->L2.inS ⟨#[k.val]⟩ Oj=false:=by decide
 exact all ⟨c,z⟩ n
end TX
namespace TX
open PySem Builtin Builtin.Str StrLaws
open PySem.W.KIN NumText
structure Nz (n:Int):Prop where
 dig:AllDigits (tx n).cps.toList
 Sg:1<=(tx n).length
 len:(tx n).length<=50
 rd:intText? (tx n)=some n
 as:(tx n).cps.all (·<128)=true
 lg:n.natAbs.log2<1920
 hd:n=0\/∃c r,(tx n).cps.toList=c::r/\c≠48
theorem eU {n:Int} (h0:0<=n) (O:n<10 ^ 50):Nz n:=by
 obtain ⟨m,rfl⟩:=zR h0
 have D:m<10 ^ 50:=by exact_mod_cast O
 have hd:=Ym m
 have ne:(Nat.toDigits 10 m)≠[]:=Nat.toDigits_ne_nil
 have J:1<=(tx (m:Int)).length:=by
  rw [<-cN,Bw,zd]
  exact List.length_pos_iff.mpr ne
 have I:(tx (m:Int)).length<=50:=by
  rw [<-cN,Bw,zd]
  exact wI 50 m (by decide) D
 have rd:=intText_digits hd (by rw [Bw];simpa using ne) (zQ I (by decide))
 rw [Bw,val_back] at rd
 refine ⟨hd,J,I,rd,?_,?_,?_⟩
 ·rw [<-xp,yC]
  intro c B
  have:=hd c B
  exact yj (by omega)
 ·by_cases z:m=0
  ·subst z;decide
  ·have:m<2 ^ 1000:=xf D (by decide)
   exact zI ((Nat.log2_lt z).mpr this) (by decide)
 ·by_cases z:m=0
  ·exact .inl (by rw [z];rfl)
  ·obtain ⟨c,r,e,B⟩:=Oi m (by omega)
   exact .inr ⟨_,_,by rw [Bw,e];rfl,B⟩
def wr (w:Str):Bool:=decide (1<=w.length) && decide (w.length<=41) && (decide (w.length=1) || !(w.cps.toList.head? == some 48)) && w.cps.toList.all λc=>decide (48<=c) && decide (c<=57)
theorem tx0:tx 0=("0":Str):=by decide
theorem Us {w:Str} (h:wr w=true):∃n:Int,0<=n/\n<10 ^ 41/\w=tx n:=by
 unfold wr at h
 simp only [yo,Bool.or_eq_true,yl,yC,Bool.not_eq_true'] at h
 obtain ⟨⟨⟨h1,h2⟩,B⟩,J⟩:=h
 cases D:w.cps.toList with
 | nil=>rw [<-cN,D] at h1;simp at h1
 | cons c r=>
  rw [D] at B J
  by_cases z:c=48
  ·have O:r=[]:=by
    rcases B with B|B
    ·have:=cN w
     rw [D,B] at this
     simpa using this
    ·rw [z] at B;simp at B
   refine ⟨0,by decide,by decide,tK ?_⟩
   rw [tx0,D,z,O]
   decide
  ·obtain ⟨m,Y,I,U⟩:=R_ _ (c::r) rfl J ⟨c,r,rfl,z⟩
   rw [<-D,cN] at I
   refine ⟨(m:Int),by omega,?_,tK ?_⟩
   ·have:m<10 ^ 41:=zI I (Nat.pow_le_pow_right (by decide) h2)
    exact_mod_cast this
   ·rw [D,Bw,U]
theorem Ut {n:Int} (h0:0<=n) (D:n<10 ^ 41):wr (tx n)=true:=by
 have B:=eU h0 (xd D (by decide))
 obtain ⟨m,rfl⟩:=zR h0
 have I:m<10 ^ 41:=by exact_mod_cast D
 have J:(tx (m:Int)).length<=41:=by
  rw [<-cN,Bw,zd]
  exact wI 41 m (by decide) I
 unfold wr
 simp only [yo,Bool.or_eq_true,yl,yC,Bool.not_eq_true']
 refine ⟨⟨⟨B.Sg,J⟩,?_⟩,B.dig⟩
 rcases B.hd with z|⟨c,r,e,O⟩
 ·rw [z];exact .inl (by decide)
 ·exact .inr (by rw [e];simpa using O)
def num (w:Str) (bd:Int):Option Int:=if wr w=true then (intText? w).bind λn=>if n<=bd then some n else none else none
theorem iw {w:Str} {bd n:Int} (h:num w bd=some n):0<=n/\n<10 ^ 41/\n<=bd/\w=tx n:=by
 unfold num at h
 by_cases z:wr w=true
 ·obtain ⟨m,D,B,rfl⟩:=Us z
  rw [zm z,(eU D (xd B (by decide))).rd] at h
  simp only [xG] at h
  by_cases y:m<=bd
  ·rw [zm y] at h;cases h;exact ⟨D,B,y,rfl⟩
  ·rw [zi y] at h;cases h
 ·rw [zi z] at h;cases h
theorem Ol {bd n:Int} (h0:0<=n) (z:n<10 ^ 41):num (tx n) bd=if n<=bd then some n else none:=by
 unfold num
 rw [zm (Ut h0 z),(eU h0 (xd z (by decide))).rd]
 rfl
def BT:List (Str × List Int):=[("base",[10 ^ 40]),("figures",[10 ^ 40]),("is",[10 ^ 40]),("below",[10 ^ 40]),("above",[10 ^ 40]),("count",[10 ^ 40]),("at",[10 ^ 20]),("place",[10 ^ 40]),("few",[10 ^ 40]),("two",[10 ^ 6]),("fewest",[10 ^ 6]),("ways",[500,12]),("way",[500,12,10 ^ 40])]
def nums:List Str->List Int->Option (List Int)
 | [],[]=>some []
 | w::ws,b::bs=>(num w b).bind λn=>(nums ws bs).map (n::·)
 | _,_=>none
def mQ:Str:=" "
def rowOf (w:Str):Option (Str × List Int):=match Txt.split w mQ with
 | []=>none
 | f::os=>(BT.lookup f).bind λbs=>(nums os bs).map (f,·)
theorem wJ (sp w v:Str) (r:List Str):(Str.join sp (w::v::r)).cps.toList=w.cps.toList++(sp.cps.toList++(Str.join sp (v::r)).cps.toList):=by
 show (w++sp++Str.join sp (v::r)).cps.toList=_
 rw [j9,j9,yH]
theorem aa6 {sp:Str} {sr:List Nat} (n:sp.cps.toList=32::sr) {x:Str} {k:Nat} (h:At x sp x.length k):∃t,x.cps.toList.drop k=32::t:=by
 obtain ⟨h1,h2⟩:=h
 rw [subAt_eq,n,show sp.length=sr.length+1 by rw [<-cN,n];rfl] at h2
 have e:=eq_of_beq h2
 cases hd:x.cps.toList.drop k with
 | nil=>rw [hd] at e;simp at e
 | cons c t=>
  rw [hd] at e
  have:c=32:=by
   have:=yn List.head? e
   simpa using this
  exact ⟨t,by rw [this]⟩
theorem GP {sp:Str} {sr:List Nat} (D:sp.cps.toList=32::sr) {x:Str}:∀(J:List Str),J≠[]->(∀w∈J,32 ∉ w.cps.toList)->∀(a:Nat) (n:List Nat) (f:Nat),x.cps.toList.drop a=(Str.join sp J).cps.toList->ChainG x sp x.length a n f->(∀k,f<=k->¬At x sp x.length k)->partsFrom x sp.length a n=J
 | [],h,_,_,_,_,_,_,_=>absurd rfl h
 | [w],_,hw,a,n,f,hd,hc,hf=>by
  have hd':x.cps.toList.drop a=w.cps.toList:=hd
  cases n with
  | nil=>
   show [strSub x a x.length]=[w]
   congr 1
   refine tK ?_
   rw [strSub_toList,hd',List.take_of_length_le]
   rw [<-hd',yU,cN]
   exact zx _
  | cons c r=>
   exfalso
   obtain ⟨h1,h2,_,_⟩:=hc
   obtain ⟨t,B⟩:=aa6 D h2
   refine hw w zo ?_
   rw [<-hd']
   have:x.cps.toList.drop c=(x.cps.toList.drop a).drop (c - a):=by rw [List.drop_drop];congr 1;omega
   rw [this] at B
   exact List.mem_of_mem_drop (by rw [B];exact zo)
 | w::v::r,_,hw,a,n,f,hd,hc,hf=>by
  rw [wJ,D] at hd
  have dp:x.cps.toList.drop (a+w.length)=(32::sr)++(Str.join sp (v::r)).cps.toList:=by
   rw [<-List.drop_drop,hd,List.drop_left' (cN w)]
  have sn:sp.length=sr.length+1:=by rw [<-cN,D];rfl
  have ln:a+w.length+(sr.length+1)<=x.length:=by
   have h1:=yn List.length dp
   rw [yU,cN,zj] at h1
   simp only [zH] at h1
   omega
  have I:At x sp x.length (a+w.length):=by
   refine ⟨by rw [sn];exact ln,?_⟩
   rw [subAt_eq,D,sn,dp,List.take_left' (by simp)]
   exact beq_self_eq_true _
  cases n with
  | nil=>
   have e:f=a:=hc
   exact absurd I (hf _ (by omega))
  | cons c rc=>
   obtain ⟨h1,h2,h3,h4⟩:=hc
   have ec:c=a+w.length:=by
    by_cases z:c<a+w.length
    ·exfalso
     obtain ⟨t,B⟩:=aa6 D h2
     refine hw w zo ?_
     have e1:x.cps.toList.drop c=(x.cps.toList.drop a).drop (c - a):=by rw [List.drop_drop];congr 1;omega
     rw [e1,hd,List.drop_append_of_le_length (by rw [cN];omega)] at B
     have Y:w.cps.toList.drop (c - a)≠[]:=λO=>by
      have:=yn List.length O
      rw [yU,cN] at this
      simp at this
      omega
     cases U:w.cps.toList.drop (c - a) with
     | nil=>exact absurd U Y
     | cons y ys=>
      rw [U] at B
      have:y=32:=by
       have:=yn List.head? B
       simpa using this
      subst this
      exact List.mem_of_mem_drop (by rw [U];exact zo)
    ·by_cases O:a+w.length<c
     ·exact absurd I (h3 _ (by omega) O)
     ·omega
   subst ec
   show strSub x a (a+w.length)::partsFrom x sp.length (a+w.length+sp.length) rc=w::v::r
   congr 1
   ·refine tK ?_
    rw [strSub_toList,hd,Nat.add_sub_cancel_left,<-cN w,List.take_left]
   ·refine GP D (v::r) (by simp) (λu Z=>hw u (zp _ Z)) _ rc f ?_ h4 hf
    rw [<-List.drop_drop,dp,sn,List.drop_left' (by simp)]
theorem Yo {sp:Str} (n:Builtin.Str.strKind sp=1) (x:Str):¬Builtin.Str.strKind x<Builtin.Str.strKind sp:=by
 have:=n
 rw [this]
 unfold Builtin.Str.strKind
 split
 ·omega
 ·split<;>omega
theorem Sh {sp:Str} {sr:List Nat} (B:sp.cps.toList=32::sr) (I:Builtin.Str.strKind sp=1) {ws:List Str} (h:ws≠[]) (D:∀w∈ws,32 ∉ w.cps.toList):Txt.split (Str.join sp ws) sp=ws:=by
 have one:∀w,ws=[w]->[Str.join sp ws]=ws:=λw e=>by subst e;rfl
 unfold Txt.split
 by_cases h1:(Str.join sp ws).length<sp.length
 ·rw [zm (by simp [h1])]
  match ws,h with
  | [w],_=>rfl
  | w::v::r,_=>
   exfalso
   have:=yn List.length (wJ sp w v r)
   rw [cN,zj,zj,cN sp] at this
   omega
 ·rw [zi (by simp [h1,Yo I])]
  obtain ⟨f,J,hf⟩:=occ_tight (Str.join sp ws) sp (by rw [<-cN,B];simp)
  have n:=GP B ws h D 0 _ f (by rw [List.drop_zero]) J hf
  split
  ·rename_i he
   rw [List.isEmpty_iff.mp he] at n
   have z:[strSub (Str.join sp ws) 0 (Str.join sp ws).length]=ws:=n
   rw [sub_whole] at z
   exact z
  ·rw [partsBetween_eq];exact n
theorem split1 {ws:List Str} (h:ws≠[]) (n:∀w∈ws,32 ∉ w.cps.toList):Txt.split (Str.join mQ ws) mQ=ws:=Sh (sr:=[]) (by decide) (by decide) h n
theorem qU {sp:Str}:∀{ws:List Str} {w:Str},w∈ws->(∀c∈w.cps.toList,c∈(Str.join sp ws).cps.toList)/\w.length+ws.length * sp.length<=(Str.join sp ws).length+sp.length
 | [v],w,h=>by
  rw [zA] at h
  subst h
  exact ⟨λc n=>n,by show w.length+1 * sp.length<=w.length+sp.length;omega⟩
 | v::u::r,w,h=>by
  have e:(Str.join sp (v::u::r)).cps.toList=v.cps.toList++(sp.cps.toList++(Str.join sp (u::r)).cps.toList):=by
   show (v++sp++Str.join sp (u::r)).cps.toList=_
   rw [j9,j9,yH]
  have I:=yn List.length e
  rw [cN,zj,zj,cN,cN,cN] at I
  have B:∀k:Nat,(k+1+1) * sp.length=(k+1) * sp.length+sp.length:=λk=>Nat.succ_mul _ _
  rcases zr.mp h with rfl|h
  ·refine ⟨λc n=>?_,?_⟩
   ·rw [e];exact zN.mpr (.inl n)
   ·obtain ⟨_,z⟩:=qU (sp:=sp) (ws:=u::r) zo
    simp only [zH] at z ⊢
    rw [B];omega
  ·obtain ⟨D,z⟩:=qU (ws:=u::r) h
   refine ⟨λc n=>?_,?_⟩
   ·rw [e];exact zN.mpr (.inr (zN.mpr (.inr (D c n))))
   ·simp only [zH] at z ⊢
    rw [B];omega
theorem Uu:mQ.length=1:=by decide
theorem Uv {t w:Str} (z:t.cps.all (·<128)=true) (n:w∈Txt.split t mQ):w.cps.all (·<128)=true/\w.length<=t.length:=by
 have j:=qU (sp:=mQ) n
 rw [join_split,Uu] at j
 have:1<=(Txt.split t mQ).length:=List.length_pos_iff.mpr (List.ne_nil_of_mem n)
 refine ⟨?_,by omega⟩
 rw [<-xp,yC] at z ⊢
 exact λc B=>z c (j.1 c B)
theorem Om (t:Str):(Txt.split t mQ).length<=t.length+1:=by
 cases h:Txt.split t mQ with
 | nil=>simp
 | cons w r=>
  have j:=(qU (sp:=mQ) (show w∈Txt.split t mQ by rw [h];exact zo)).2
  rw [join_split,Uu,h] at j
  omega
theorem j_:∀{z:List Str} {bs ns:List Int},nums z bs=some ns->z.length=bs.length/\ns.length=bs.length
 | [],[],ns,h=>by cases h;exact ⟨rfl,rfl⟩
 | [],_::_,ns,h=>by cases h
 | _::_,[],ns,h=>by cases h
 | w::z,b::bs,ns,h=>by
  unfold nums at h
  cases h1:num w b with
  | none=>rw [h1] at h;cases h
  | some n=>
   cases h2:nums z bs with
   | none=>rw [h1,h2] at h;cases h
   | some r=>
    rw [h1,h2] at h;cases h
    obtain ⟨D,B⟩:=j_ h2
    exact ⟨by simp [D],by simp [B]⟩
theorem iJ:∀{z:List Str} {bs ns:List Int},nums z bs=some ns->∀i,i<z.length->num (z.getD i Str.empty) (bs.getD i 0)=some (ns.getD i 0)
 | [],[],ns,h,i,hi=>by simp at hi
 | [],_::_,ns,h,i,hi=>by cases h
 | _::_,[],ns,h,i,hi=>by cases h
 | w::z,b::bs,ns,h,i,hi=>by
  unfold nums at h
  cases h1:num w b with
  | none=>rw [h1] at h;cases h
  | some n=>
   cases h2:nums z bs with
   | none=>rw [h1,h2] at h;cases h
   | some r=>
    rw [h1,h2] at h;cases h
    cases i with
    | zero=>exact h1
    | succ i=>exact iJ h2 i (by simpa using hi)
theorem GQ:∀{B:List Str} {bs:List Int},B.length=bs.length->nums B bs=none->∃i,i<B.length/\num (B.getD i Str.empty) (bs.getD i 0)=none/\∀j,j<i->num (B.getD j Str.empty) (bs.getD j 0)≠none
 | [],[],_,h=>by cases h
 | [],_::_,l,h=>by simp at l
 | _::_,[],l,h=>by simp at l
 | w::B,b::bs,l,h=>by
  unfold nums at h
  cases h1:num w b with
  | none=>exact ⟨0,by simp,h1,λj D=>absurd D (Nat.not_lt_zero _)⟩
  | some n=>
   cases h2:nums B bs with
   | some r=>rw [h1,h2] at h;cases h
   | none=>
    obtain ⟨i,O,J,I⟩:=GQ (by simpa using l) h2
    refine ⟨i+1,by simpa using O,J,λj D=>?_⟩
    cases j with
    | zero=>intro z;have z:num w b=none:=z;rw [h1] at z;cases z
    | succ j=>exact I j (by omega)
inductive Row:Str->List Int->Prop
 | Bx {n:Int}:0<=n->n<=10 ^ 40->Row "base" [n]
 | oF {n:Int}:0<=n->n<=10 ^ 40->Row "figures" [n]
 | is_ {n:Int}:0<=n->n<=10 ^ 40->Row "is" [n]
 | wK {n:Int}:0<=n->n<=10 ^ 40->Row "below" [n]
 | wL {n:Int}:0<=n->n<=10 ^ 40->Row "above" [n]
 | wM {n:Int}:0<=n->n<=10 ^ 40->Row "count" [n]
 | at_ {n:Int}:0<=n->n<=10 ^ 20->Row "at" [n]
 | mR {n:Int}:0<=n->n<=10 ^ 40->Row "place" [n]
 | Sq {n:Int}:0<=n->n<=10 ^ 40->Row "few" [n]
 | two_ {n:Int}:0<=n->n<=10 ^ 6->Row "two" [n]
 | qW {n:Int}:0<=n->n<=10 ^ 6->Row "fewest" [n]
 | GR {n:Int} {k:Nat}:0<=n->n<=500->k<=12->Row "ways" [n,k]
 | En {n pl:Int} {k:Nat}:0<=n->n<=500->k<=12->0<=pl->pl<=10 ^ 40->Row "way" [n,k,pl]
theorem kh {ws:List Str} {bd:Int} {ns:List Int} (h:nums ws [bd]=some ns):∃n,ns=[n]/\0<=n/\n<=bd/\ws=[tx n]:=by
 obtain ⟨z,D⟩:=j_ h
 have a:=iJ h 0 (by rw [z];simp)
 match ws,ns,z,D with
 | [w],[n],_,_=>
  obtain ⟨B,_,n2,e⟩:=iw a
  exact ⟨n,rfl,B,n2,by rw [show w=tx n from e]⟩
theorem Eo {w f:Str} {ns:List Int} (h:rowOf w=some (f,ns)):Row f ns:=by
 unfold rowOf at h
 split at h
 ·cases h
 ·rename_i g os hs
  cases B:BT.lookup g with
  | none=>rw [B] at h;cases h
  | some bs=>
   rw [B] at h
   simp only [xG] at h
   cases I:nums os bs with
   | none=>rw [I] at h;cases h
   | some ms=>
    rw [I] at h
    cases (h)
    have one:∀{x:Str} {v:List Int} {r:List (Str × List Int)},List.lookup f ((x,v)::r)=some bs->(f=x/\v=bs)\/List.lookup f r=some bs:=λ{x v r} h=>by
     rw [zV] at h
     by_cases z:f=x
     ·subst z;simp at h;exact .inl ⟨rfl,h⟩
     ·have:(f == x)=false:=by simpa using z
      rw [this] at h;exact .inr h
    unfold BT at B
    rcases one B with ⟨rfl,rfl⟩|B
    ·obtain ⟨n,rfl,D,n1,_⟩:=kh I
     exact .Bx D n1
    rcases one B with ⟨rfl,rfl⟩|B
    ·obtain ⟨n,rfl,D,n1,_⟩:=kh I
     exact .oF D n1
    rcases one B with ⟨rfl,rfl⟩|B
    ·obtain ⟨n,rfl,D,n1,_⟩:=kh I
     exact .is_ D n1
    rcases one B with ⟨rfl,rfl⟩|B
    ·obtain ⟨n,rfl,D,n1,_⟩:=kh I
     exact .wK D n1
    rcases one B with ⟨rfl,rfl⟩|B
    ·obtain ⟨n,rfl,D,n1,_⟩:=kh I
     exact .wL D n1
    rcases one B with ⟨rfl,rfl⟩|B
    ·obtain ⟨n,rfl,D,n1,_⟩:=kh I
     exact .wM D n1
    rcases one B with ⟨rfl,rfl⟩|B
    ·obtain ⟨n,rfl,D,n1,_⟩:=kh I
     exact .at_ D n1
    rcases one B with ⟨rfl,rfl⟩|B
    ·obtain ⟨n,rfl,D,n1,_⟩:=kh I
     exact .mR D n1
    rcases one B with ⟨rfl,rfl⟩|B
    ·obtain ⟨n,rfl,D,n1,_⟩:=kh I
     exact .Sq D n1
    rcases one B with ⟨rfl,rfl⟩|B
    ·obtain ⟨n,rfl,D,n1,_⟩:=kh I
     exact .two_ D n1
    rcases one B with ⟨rfl,rfl⟩|B
    ·obtain ⟨n,rfl,D,n1,_⟩:=kh I
     exact .qW D n1
    rcases one B with ⟨rfl,rfl⟩|B
    ·obtain ⟨J,O⟩:=j_ I
     match ns,O with
     | [n,k],_=>
      obtain ⟨D,_,n1,_⟩:=iw (iJ I 0 (by rw [J];simp))
      obtain ⟨k0,_,k1,_⟩:=iw (iJ I 1 (by rw [J];simp))
      have k0:0<=k:=k0
      have k1:k<=12:=k1
      obtain ⟨m,rfl⟩:=zR k0
      exact .GR D n1 (by omega)
    rcases one B with ⟨rfl,rfl⟩|B
    ·obtain ⟨J,O⟩:=j_ I
     match ns,O with
     | [n,k,pl],_=>
      obtain ⟨D,_,n1,_⟩:=iw (iJ I 0 (by rw [J];simp))
      obtain ⟨k0,_,k1,_⟩:=iw (iJ I 1 (by rw [J];simp))
      obtain ⟨p0,_,p1,_⟩:=iw (iJ I 2 (by rw [J];simp))
      have k0:0<=k:=k0
      have k1:k<=12:=k1
      obtain ⟨m,rfl⟩:=zR k0
      exact .En D n1 (by omega) p0 p1
    cases B
end TX
namespace M
structure Ep (p:Int) (ps:List Int) (N K i:Nat) (ms:List (List Int)):Prop where
 qT:Shape N K ms
 val:∀s t:Nat,s<=K->t+K<=N+s->at2 ms s t=some (cg true (if s+i<=K then p::ps else ps) s t)
structure wN (p:Int) (ps:List Int) (N K i:Nat) (c:Int) (ms:List (List Int)):Prop where
 qT:Shape N K ms
 val:∀s t:Nat,s<=K->t+K<=N+s->at2 ms s t=some (cg true (if s<=i\/(s=i+1/\c<=(t:Int)) then p::ps else ps) s t)
section
variable {p:Int} {ps:List Int} {N K i:Nat} {c:Int} {ms:List (List Int)}
theorem Tab.Yp (h:Tab (p::ps) N K ms):Ep p ps N K 0 ms:=⟨h.qT,λs t h1 h2=>by rw [h.val s t h1 h2,zm (by omega)]⟩
theorem Ep.fin (h:Ep p ps N K K ms):Tab ps N K ms:=⟨h.qT,λs t h1 h2=>by
 rw [h.val s t h1 h2]
 by_cases z:s+K<=K
 ·have:s=0:=by omega
  subst this
  rw [zm z,uR,uR]
 ·rw [zi z]⟩
theorem Ep.go {j:Nat} (n:0<p) (h:Ep p ps N K j ms) (B:i+1+j=K):wN p ps N K i (p+(i:Int)) ms:=⟨h.qT,λs t h1 h2=>by
 rw [h.val s t h1 h2]
 by_cases z:s<=i
 ·rw [zm (by omega),zm (.inl z)]
 ·by_cases y:s=i+1
  ·subst y
   rw [zm (by omega)]
   by_cases x:p+(i:Int)<=(t:Int)
   ·rw [zm (.inr ⟨rfl,x⟩)]
   ·rw [zi (by omega),Ul n (by omega)]
  ·rw [zi (by omega),zi (by omega)]⟩
theorem wN.read (h:wN p ps N K i c ms) (B:i+1<=K) {t0:Nat} (n:c=(t0:Int)) (D:0<p) (I:p+(i:Int)<=c) (z:t0+K<=N+(i+1)) :
  at2 ms (i+1) t0=some (cg true (p::ps) (i+1) c)/\at2 ms i (c - p).toNat=some (cg true (p::ps) i (c - p)):=by
 subst n
 refine ⟨?_,?_⟩
 ·rw [h.val (i+1) t0 B z,zm (.inr ⟨rfl,by omega⟩)]
 ·have e:(((t0:Int) - p).toNat:Int)=(t0:Int) - p:=by omega
  rw [h.val i _ (by omega) (by omega),zm (.inl (zx _)),e]
theorem wN.step {r:List Int} {t0:Nat} {v:Int} (B:0<p) (h:wN p ps N K i c ms) (Y:i+1<=K) (O:c=(t0:Int)) (J:p<=c) (U:t0+K<=N+(i+1)) (n:ms[i+1]? = some r) (D:v=cg true (p::ps) (i+1) c - cg true (p::ps) i (c - p)) :
  wN p ps N K i (c+1) (ms.set (i+1) (r.set t0 v)):=by
 subst O
 have I:t0<r.length:=by have:=h.qT.row _ r n;omega
 refine ⟨h.qT.set n,λs t h1 h2=>?_⟩
 rw [GD n I]
 by_cases z:s=i+1/\t=t0
 ·obtain ⟨rfl,rfl⟩:=z
  rw [zm ⟨rfl,rfl⟩,zi (by omega),D,wA B J,Int.add_sub_cancel]
 ·rw [zi z,h.val s t h1 h2]
  by_cases y:s<=i\/(s=i+1/\(t0:Int)<=(t:Int))
  ·rw [zm y,zm (by omega)]
  ·rw [zi y,zi (by omega)]
theorem wN.fin {j:Nat} (h:wN p ps N K i c ms) (I:i+(j+1)=K) (B:0<p) (n:∀x∈ps,x<=p) (D:∀t:Nat,t+K<=N+(i+1)->c<=(t:Int)->p * ((i:Int)+1)<(t:Int)):Ep p ps N K (j+1) ms:=⟨h.qT,λs t h1 h2=>by
 rw [h.val s t h1 h2]
 by_cases z:s<=i
 ·rw [zm (.inl z),zm (by omega)]
 ·by_cases y:s=i+1/\c<=(t:Int)
  ·obtain ⟨rfl,y⟩:=y
   rw [zm (.inr ⟨rfl,y⟩),zi (by omega),Um B n (D t h2 y)]
  ·rw [zi (by omega),zi (by omega)]⟩
theorem Tab.less {z n:Nat} (h:Tab ps N K ms) (hN:z+K<=N+n) (B:n<=K):Tab ps z n ms:=⟨⟨by have:=h.qT.len;omega,λs r e=>by have:=h.qT.row s r e;omega⟩,λs t h1 h2=>h.val s t (by omega) (by omega)⟩
end
def cf (p:Int) (ps:List Int) (K:Nat) (N:Int):Int:=if K=0\/N<p then 0 else cg true (p::ps) (K - 1) (N - p)
theorem aa7 {p:Int} {ps:List Int} {K:Nat} {N:Int} (n:0<p):cg true (p::ps) K N=cg true ps K N+cf p ps K N:=by
 rw [d_]
 unfold cf
 by_cases h:K=0\/N<p
 ·rw [zm h,zi (λz=>by have:=z.2.2 rfl;omega)]
 ·rw [zi h,zm ⟨n,by omega,λ_=>by omega⟩]
def watI (p : Int) (ps : List Int) (r : Nat → Int → Int → List Int) : Nat → Int → Int → List Int
  | 0, N, pl => r 0 N (pl - cf p ps 0 N)
  | K + 1, N, pl => if pl < cf p ps (K + 1) N then p :: watI p ps r K (N - p) pl else r (K + 1) N (pl - cf p ps (K + 1) N)
def qu : List Int → Nat → Int → Int → List Int
  | [] => fun _ _ _ => []
  | p :: ps => watI p ps (qu ps)
theorem wQ {p : Int} {ps : List Int} {K : Nat} {N pl : Int} (h : 0 < K ∧ pl < cf p ps K N) : qu (p :: ps) K N pl = p :: qu (p :: ps) (K - 1) (N - p) pl := by
  cases K with
  | zero => exact absurd h.1 (by omega)
  | succ K => exact if_pos h.2
theorem wR {p : Int} {ps : List Int} {K : Nat} {N pl : Int} (h : ¬ (0 < K ∧ pl < cf p ps K N)) : qu (p :: ps) K N pl = qu ps K N (pl - cf p ps K N) := by
  cases K with
  | zero => rfl
  | succ K => exact if_neg (fun z => h ⟨by omega, z⟩)
theorem wU {K : Nat} {N pl : Int} : qu [] K N pl = [] := rfl
theorem AL.uniq {b n m m':Int} (h:AL b n m) (h':AL b n m'):m=m':=by
 have:=h.bot m' h'.mp h'.le
 have:=h'.bot m h.mp h.le
 omega
theorem I_ (b:Int):∀{m n:Nat},m<=n->pN b m<=pN b n:=by
 intro m n h
 induction h with
 | refl=>exact yx _
 | step _ ih=>
  refine yw ih ?_
  show _<=pN b _+_
  split<;>omega
theorem Uw {b m m':Int} (n:2<=b) (h:Mp b m) (h':Mp b m') (z:m<m'):pl b m<pl b m':=by
 have e1:=mO n h.1 (AM.self h)
 have e2:=mO n h'.1 (AM.self h')
 rw [e1,e2]
 unfold cnt
 obtain ⟨k,B⟩:∃k,m'.toNat=k+1:=⟨m'.toNat - 1,by have:=h.1;omega⟩
 have q:=I_ b (show m.toNat<=k by omega)
 rw [B]
 show _<pN b k+_
 have e:((k:Int)+1)=m':=by have:=h'.1;omega
 rw [e,h'.2]
 simp;omega
theorem Oo {b m m':Int} (n:2<=b) (h:Mp b m) (h':Mp b m') (e:pl b m=pl b m'):m=m':=by
 by_cases z:m<m'
 ·have:=Uw n h h' z;omega
 ·by_cases B:m'<m
  ·have:=Uw n h' h B;omega
  ·omega
theorem Gt.uniq {b:Int}:∀{m:Nat} {n:Int} {L B:List Int},Gt b m n L->Gt b m n B->L=B
 | _,_,_,_,.nil,.nil=>rfl
 | _,_,_,_,.cons (p:=p) p1 pm g no,.cons (p:=p') p1' pm' g' no'=>by
  have e:p=p':=by
   by_cases z:p<p'
   ·exact absurd g'.way.sm (no p' z pm')
   ·by_cases D:p'<p
    ·exact absurd g.way.sm (no' p D pm)
    ·omega
  subst e
  rw [g.uniq g']
noncomputable def the {α:Type} [Inhabited α] (P:α->Prop):α:=Classical.epsilon P
theorem iQ {α:Type} [Inhabited α] {P:α->Prop} {m:α} (h:P m) (u:∀m',P m'->m'=m):the P=m:=u _ (Classical.epsilon_spec ⟨m,h⟩)
theorem Er:∀(ps:List Int) (K:Nat) (N pl:Int),(∀x∈qu ps K N pl,x∈ps)/\(qu ps K N pl).length<=K:=by
 intro ps
 induction ps with
 | nil=>intro K N pl;rw [wU];exact ⟨λ_ h=>h,ye _⟩
 | cons p ps ihp=>
  intro K N pl
  have z:∀K N pl,¬(0<K/\pl<cf p ps K N)->(∀x∈qu (p::ps) K N pl,x∈p::ps)/\(qu (p::ps) K N pl).length<=K:=λK N pl h=>by
   rw [wR h]
   have:=ihp K N (pl - cf p ps K N)
   exact ⟨λx n=>zp _ (this.1 x n),this.2⟩
  induction K generalizing N with
  | zero=>exact z 0 N pl λh=>absurd h.1 (by decide)
  | succ K ih=>
   by_cases h:0<K+1/\pl<cf p ps (K+1) N
   ·rw [wQ h,y9]
    have:=ih (N - p)
    exact ⟨λx n=>by
     rcases zr.mp n with rfl|n
     ·exact zo
     ·exact this.1 x n,by rw [zH];omega⟩
   ·exact z (K+1) N pl h
def awI (b : Int) (k : Nat) (r : Nat → Int → List (List Int)) : Nat → Int → List (List Int)
  | 0, _ => []
  | m + 1, n => (if bQ b ((m : Int) + 1) = true ∧ (m : Int) + 1 ≤ n ∧ n ≤ ((m : Int) + 1) * ((k : Int) + 1) then (r (m + 1) (n - ((m : Int) + 1))).map (fun r => ((m : Int) + 1) :: r) else []) ++ awI b k r m n
def aw (b : Int) : Nat → Nat → Int → List (List Int)
  | 0 => fun _ n => if n = 0 then [[]] else []
  | k + 1 => fun m n => awI b k (aw b k) m n
theorem aw_0 {b : Int} {m : Nat} {n : Int} : aw b 0 m n = if n = 0 then [[]] else [] := rfl
theorem aw_n {b : Int} {k : Nat} {n : Int} : aw b (k + 1) 0 n = [] := rfl
theorem aw_s {b : Int} {k m : Nat} {n : Int} : aw b (k + 1) (m + 1) n = (if bQ b ((m : Int) + 1) = true ∧ (m : Int) + 1 ≤ n ∧ n ≤ ((m : Int) + 1) * ((k : Int) + 1) then (aw b k (m + 1) (n - ((m : Int) + 1))).map (fun r => ((m : Int) + 1) :: r) else []) ++ aw b (k + 1) m n := rfl
theorem qX (b:Int):∀(m:Nat),∀x∈(jJ b m).reverse,x<=(m:Int)
 | 0,x,h=>by simp [jJ] at h
 | m+1,x,h=>by
  rw [yi] at h
  by_cases c:bQ b ((m:Int)+1)=true
  ·rw [jz c] at h
   rcases zN.mp h with h|h
   ·have:=qX b m x (yi.mpr h);omega
   ·have:=zA.mp h;omega
  ·rw [jA c] at h
   have:=qX b m x (yi.mpr h);omega
theorem lD {b:Int} {m:Nat} (c:bQ b ((m:Int)+1)=true):(jJ b (m+1)).reverse=((m:Int)+1)::(jJ b m).reverse:=by rw [jz c,yI];rfl
theorem Oq (b:Int):∀(k m:Nat) (n:Int),(((aw b k m n).length:Nat):Int)=cg true (jJ b m).reverse k n/\∀i:Nat,i<(aw b k m n).length->(aw b k m n)[i]? = some (qu (jJ b m).reverse k n (i:Int)):=by
 intro k
 induction k with
 | zero=>
  intro m n
  have Y:∀(ps:List Int) (i:Int),0<=i->i<1->qu ps 0 n i=[]:=λps=>by
   induction ps with
   | nil=>intro i _ _;exact wU
   | cons p ps ih=>
    intro i h0 h1
    have e:cf p ps 0 n=0:=by unfold cf;rw [zm (.inl rfl)]
    rw [wR (λz=>absurd z.1 (by omega)),e,Int.sub_zero]
    exact ih i h0 h1
  rw [aw_0,uR]
  by_cases z:n=0
  ·rw [zm z,zm z]
   refine ⟨rfl,λi hi=>?_⟩
   have:i=0:=by simpa using hi
   subst this
   rw [Y _ _ (by decide) (by decide)];rfl
  ·rw [zi z,zi z]
   exact ⟨rfl,λi hi=>absurd hi (by simp)⟩
 | succ k ihk=>
  intro m n
  induction m with
  | zero=>
   have e:(jJ b 0).reverse=[]:=by rw [jJ];rfl
   rw [aw_n,e,gK,zi (λz=>absurd (z.2 rfl) (by omega))]
   exact ⟨rfl,λi hi=>absurd hi (by simp)⟩
  | succ m ihm=>
   obtain ⟨I,U⟩:=ihm
   rw [aw_s]
   by_cases c:bQ b ((m:Int)+1)=true
   ·rw [lD c]
    have D:cf ((m:Int)+1) (jJ b m).reverse (k+1) n=(((if bQ b ((m:Int)+1)=true/\(m:Int)+1<=n/\n<=((m:Int)+1) * ((k:Int)+1) then (aw b k (m+1) (n - ((m:Int)+1))).map (λr=>((m:Int)+1)::r) else []).length:Nat):Int):=by
     have O:=(ihk (m+1) (n - ((m:Int)+1))).1
     rw [lD c] at O
     unfold cf
     by_cases h1:(m:Int)+1<=n
     ·rw [zi (by omega),y9]
      by_cases h2:n<=((m:Int)+1) * ((k:Int)+1)
      ·rw [zm ⟨c,h1,h2⟩,zd,O]
      ·rw [zi (λz=>h2 z.2.2)]
       refine oA (m:=(m:Int)+1) (by omega) _ (λx J=>?_) k _ ?_
       ·rw [<-lD c] at J;have:=qX b (m+1) x J;omega
       ·rw [Int.mul_add,Int.mul_one] at h2;omega
     ·rw [zm (.inr (by omega)),zi (λz=>h1 z.2.1)];rfl
    refine ⟨by rw [zj,aa7 (by omega),D,<-I];omega,λi hi=>?_⟩
    by_cases B:(i:Int)<cf ((m:Int)+1) (jJ b m).reverse (k+1) n
    ·rw [wQ (K:=k+1) ⟨Nat.succ_pos k,B⟩,y9]
     rw [D] at B
     by_cases h:bQ b ((m:Int)+1)=true/\(m:Int)+1<=n/\n<=((m:Int)+1) * ((k:Int)+1)
     ·rw [zm h] at B ⊢
      have h2:=(ihk (m+1) (n - ((m:Int)+1))).2 i (by rw [zd] at B;omega)
      rw [lD c] at h2
      rw [zP (by omega),zO,h2];rfl
     ·rw [zi h] at B
      exact absurd B (by simp)
    ·rw [wR (λz=>B z.2)]
     rw [D] at B ⊢
     rw [zj] at hi
     rw [zZ (by omega),U _ (by omega)]
     congr 2;omega
   ·rw [zi (λz=>c z.1),xy,jA c]
    exact ⟨I,U⟩
theorem Ot {b:Int} {k:Nat} {n:Nat}:∀(m:Nat),n<=m->aw b (k+1) m (n:Int)=aw b (k+1) n (n:Int)
 | 0,h=>by rw [show n=0 by omega]
 | m+1,h=>by
  by_cases z:n=m+1
  ·rw [z]
  ·rw [aw_s,zi (λq=>absurd q.2.1 (by omega)),xy]
   exact Ot m (by omega)
theorem Yq (b:Int):∀(k m:Nat) (n:Int),∀w∈aw b k m n,w.length=k:=by
 intro k
 induction k with
 | zero=>
  intro m n w h
  rw [aw_0] at h
  split at h
  ·rw [zA.mp h];rfl
  ·cases h
 | succ k ih=>
  intro m n w h
  induction m with
  | zero=>rw [aw_n] at h;cases h
  | succ m ihm=>
   rw [aw_s] at h
   rcases zN.mp h with h|h
   ·split at h
    ·obtain ⟨r,z,rfl⟩:=yb.mp h
     rw [zH,ih _ _ r z]
    ·cases h
   ·exact ihm h
theorem Es (b:Int) {x:Int}:∀m:Nat,cg true (jJ b m).reverse 1 x=if 1<=x/\x<=(m:Int)/\bQ b x=true then 1 else 0
 | 0=>by
  rw [show (jJ b 0).reverse=[] by rw [jJ];rfl,gK,zi (λz=>absurd (z.2 rfl) (by decide)),zi (λz=>by omega)]
 | m+1=>by
  by_cases c:bQ b ((m:Int)+1)=true
  ·rw [lD c,d_,Es b m,Nat.sub_self,uR]
   by_cases z:x=(m:Int)+1
   ·rw [zi (λq=>by omega),zm ⟨by omega,by omega,λ_=>by decide⟩,zm (by omega),zm ⟨by omega,by omega,z▸c⟩];rfl
   ·by_cases y:1<=x/\x<=(m:Int)/\bQ b x=true
    ·rw [zm y,zi (λq=>by omega),zm ⟨y.1,by omega,y.2.2⟩];rfl
    ·rw [zi y,zi (show ¬(1<=x/\x<=((m+1:Nat):Int)/\bQ b x=true) from λq=>y ⟨q.1,by omega,q.2.2⟩),zi (show ¬x - ((m:Int)+1)=0 by omega)]
     split<;>rfl
  ·rw [jA c,Es b m]
   by_cases y:1<=x/\x<=(m:Int)/\bQ b x=true
   ·rw [zm y,zm ⟨y.1,by omega,y.2.2⟩]
   ·rw [zi y,zi (λq=>y ⟨q.1,?_,q.2.2⟩)]
    by_cases z:x=(m:Int)+1
    ·rw [z] at q;exact absurd q.2.2 c
    ·omega
theorem Ou (b:Int) {N m:Nat} (n:m<N):cg true (jJ b (m+1)).reverse 2 (N:Int)=cg true (jJ b m).reverse 2 (N:Int)+if bQ b ((m:Int)+1)=true/\1<=(N:Int) - ((m:Int)+1)/\(N:Int) - ((m:Int)+1)<=(m:Int)+1/\bQ b ((N:Int) - ((m:Int)+1))=true then 1 else 0:=by
 by_cases c:bQ b ((m:Int)+1)=true
 ·have h1:=Es b (x:=(N:Int) - ((m:Int)+1)) (m+1)
  rw [lD c] at h1 ⊢
  rw [d_,zm ⟨Int.ofNat_lt.mpr (Nat.succ_pos m),Int.ofNat_le.mpr n,λ_=>by decide⟩,h1]
  congr 1
  by_cases y:1<=(N:Int) - ((m:Int)+1)/\(N:Int) - ((m:Int)+1)<=((m+1:Nat):Int)/\bQ b ((N:Int) - ((m:Int)+1))=true
  ·rw [zm y,zm ⟨c,y⟩]
  ·rw [zi y,zi (λq=>y q.2)]
 ·rw [jA c,zi (λz=>c z.1),xq]
theorem Yr (b:Int) (N t:Nat):(((jJ b (t+1)).filter λx=>bQ b ((N:Int) - x)).length:Int)=(((jJ b t).filter λx=>bQ b ((N:Int) - x)).length:Int)+if bQ b ((t:Int)+1)=true/\bQ b ((N:Int) - ((t:Int)+1))=true then 1 else 0:=by
 by_cases c:bQ b ((t:Int)+1)=true
 ·rw [jz c,List.filter_append,zj]
  by_cases d:bQ b ((N:Int) - ((t:Int)+1))=true
  ·rw [zm ⟨c,d⟩,List.filter_cons_of_pos (p:=λx=>bQ b ((N:Int) - x)) d];rfl
  ·rw [zi (λz=>d z.2),List.filter_cons_of_neg (p:=λx=>bQ b ((N:Int) - x)) d];rfl
 ·rw [jA c,zi (λz=>c z.1),xq]
theorem two_key (b:Int) {N h:Nat} (z:2 * h<=N) (n:N<=2 * h+1):∀i t u:Nat,t+i=h->t+u+1=N->(((jJ b h).filter λx=>bQ b ((N:Int) - x)).length:Int)=(((jJ b t).filter λx=>bQ b ((N:Int) - x)).length:Int)+cg true (jJ b u).reverse 2 (N:Int)
 | 0,t,u,e,f=>by
  obtain rfl:t=h:=e
  rw [oA (m:=(u:Int)) (Int.natCast_nonneg u) _ (qX b u) 2 _ (by omega),xq]
 | i+1,t,u,e,f=>by
  obtain ⟨v,rfl⟩:∃v,u=v+1:=⟨u - 1,by omega⟩
  have a1:(v:Int)+1=(N:Int) - ((t:Int)+1):=by omega
  have a2:(N:Int) - ((v:Int)+1)=(t:Int)+1:=by omega
  have a3:(1:Int)<=(t:Int)+1/\(t:Int)+1<=(v:Int)+1:=by omega
  rw [two_key b z n i (t+1) v (by omega) (by omega),Yr,Ou b (m:=v) (by omega),a2,Int.add_assoc,xc (cg true _ _ _)]
  congr 2
  by_cases y:bQ b ((t:Int)+1)=true/\bQ b ((N:Int) - ((t:Int)+1))=true
  ·rw [zm y,zm ⟨a1▸y.2,a3.1,a3.2,y.1⟩]
  ·rw [zi y,zi (λq=>y ⟨q.2.2.2,a1▸q.1⟩)]
theorem tw_cg {b n:Int} (B:0<=n):((tw b n).length:Int)=cg true (bA b n).reverse 2 n:=by
 obtain ⟨N,rfl⟩:=zR B
 unfold tw bA
 rw [show ((N:Int) / 2).toNat=N / 2 by omega,show ((N:Int)).toNat=N from rfl]
 cases N with
 | zero=>rw [show jJ b 0=[] from rfl,List.reverse_nil,gK,zi (λz=>absurd (z.2 rfl) (by decide))];rfl
 | succ N=>
  rw [two_key b (N:=N+1) (by omega) (by omega) ((N+1) / 2) 0 N (by omega) (by omega),Ou b (m:=N) (by omega),zi (λz=>by omega),xq,show jJ b 0=[] from rfl]
  exact xE _
def wV (f:Nat->Nat->Nat):Nat->Nat->Nat
 | 0,_=>0
 | m+1,n=>(if m+1<=n then f (m+1) (n - (m+1)) else 0)+wV f m n
def al:Nat->Nat->Nat->Nat
 | 0=>λ_ n=>if n=0 then 1 else 0
 | k+1=>λm n=>if n=0 then 1 else wV (al k) m n
theorem aa9 (b:Int):∀(k m n:Nat),(aw b k m (n:Int)).length<=al k m n:=by
 intro k
 induction k with
 | zero=>
  intro m n
  rw [aw_0,al]
  by_cases z:n=0
  ·subst z;exact zx 1
  ·rw [zi (by omega)];exact ye _
 | succ k ih=>
  have B:∀m n,(aw b (k+1) m ((n:Nat):Int)).length<=wV (al k) m n:=λm n=>by
   induction m with
   | zero=>rw [aw_n];exact ye _
   | succ m ihm=>
    rw [aw_s,zj,wV]
    refine Nat.add_le_add ?_ ihm
    by_cases z:m+1<=n
    ·rw [zm z]
     split
     ·rw [zd,show (n:Int) - ((m:Int)+1)=((n - (m+1):Nat):Int) by omega]
      exact ih _ _
     ·exact ye _
    ·rw [zi z,zi (λq=>by omega)];exact ye _
  intro m n
  show _<=if n=0 then 1 else wV (al k) m n
  by_cases z:n=0
  ·have e:∀m,wV (al k) m 0=0:=λm=>by
    induction m with
    | zero=>rfl
    | succ m ih=>rw [wV,ih,zi (by omega)]
   have:=B m n
   rw [z,e] at this
   rw [z];exact zQ this (ye _)
  ·rw [zi z];exact B m n
theorem aba {k n p:Nat} (D:1<=p) (B:p<=n):∀{m:Nat},p<=m->al k p (n - p)<=al (k+1) m n:=by
 intro m h
 show _<=if n=0 then 1 else wV (al k) m n
 rw [zi (by omega)]
 induction m with
 | zero=>omega
 | succ m ih=>
  rw [wV]
  by_cases z:p=m+1
  ·subst z;rw [zm B];exact Nat.le_add_right _ _
  ·exact zQ (ih (by omega)) (Nat.le_add_left _ _)
theorem Ov {f g:Nat->Nat->Nat} (h:∀m n,f m n<=g m n) (n:Nat):∀m,wV f m n<=wV g m n
 | 0=>zx _
 | m+1=>by
  rw [wV,wV]
  refine Nat.add_le_add ?_ (Ov h n m)
  split
  ·exact h _ _
  ·exact zx _
theorem Ux:∀(k m n:Nat),al k m n<=al (k+1) m n
 | 0,m,n=>by
  show (if n=0 then 1 else 0)<=if n=0 then 1 else _
  split<;>omega
 | k+1,m,n=>by
  show (if n=0 then 1 else wV (al k) m n)<=if n=0 then 1 else wV (al (k+1)) m n
  split
  ·exact zx _
  ·exact Ov (Ux k) n m
theorem Et:∀(k:Nat) {m n:Nat} (M:Nat),m<=M->al k m n<=(M+1) ^ k
 | 0,m,n,M,_=>by
  show (if n=0 then 1 else 0)<=_
  rw [Nat.pow_zero];split<;>omega
 | k+1,m,n,M,h=>by
  have q:=Nat.pow_pos (n:=k) (show 0<M+1 by omega)
  have:∀m,m<=M->wV (al k) m n<=m * (M+1) ^ k:=λm=>by
   induction m with
   | zero=>intro _;rw [wV];exact ye _
   | succ m ih=>
    intro z
    rw [wV,Nat.succ_mul,Nat.add_comm]
    refine Nat.add_le_add (ih (by omega)) ?_
    split
    ·exact Et k M z
    ·exact ye _
  show (if n=0 then 1 else wV (al k) m n)<=_
  rw [Nat.pow_succ,Nat.mul_comm]
  split
  ·exact Nat.mul_pos (by omega) q
  ·exact zQ (this m h) (Nat.mul_le_mul_right _ (by omega))
theorem abb:∀n:Nat,n<27->al 12 n n<=95000:=by decide
theorem Ow {k n:Nat} (h:k<=2/\n<=300\/k=3/\n<=40\/k<=12/\n<=26):al k n n<=95000:=by
 rcases h with ⟨h,z⟩|⟨rfl,z⟩|⟨h,z⟩
 ·exact zQ (Et k 300 z) (zQ (Nat.pow_le_pow_right (by decide) h) (by decide))
 ·exact zQ (Et 3 40 z) (by decide)
 ·have:∀j,al k n n<=al (k+j) n n:=λj=>by
   induction j with
   | zero=>exact zx _
   | succ j ih=>exact zQ ih (Ux _ _ _)
  have h1:=this (12 - k)
  rw [show k+(12 - k)=12 by omega] at h1
  exact zQ h1 (abb n (by omega))
end M
def L2.qD:="~Q9 ~qC ~q2 ~KH ~q1 ~gm ~Zf ~Rc ~Ds ~Wt ~qOr ~Wu ~K1 ~Wv ~K3 ~qIf ~qFz ~Rf ~H_ ~lO ~Wy ~WD ~qIx ~Du ~Dv ~nSl ~WN ~WQ ~WR ~WT ~qI2 ~vL ~WW ~WY ~W4 ~K8 ~K_ ~La ~Ri ~Lb ~W6 ~W8 ~Ld ~Ib ~Lg ~W_ ~Dz ~mD ~Az ~pF ~A_ ~Xb ~Xc ~iqL ~vP ~Ln ~Sl.ev ~Sl.val ~Sl.mu ~Sl.put ~Rt.val ~Rt.sl ~lk ~P_ ~Aq ~toI ~isN ~jX ~eE ~fO ~back ~outs ~bU ~Av ~Lr ~Ls ~Lw ~Lx ~iqV ~vR ~LC ~LK ~Xr ~Xu ~LR ~DQ ~iqS ~DR ~DW ~Xw ~nOr ~XS ~pJ ~Mh ~Mi ~XD ~Mq ~Mm ~XH ~Mt ~Mu ~XC ~MK ~Yg ~Bq ~Ea ~vIf ~RW ~Ef ~vY ~vZ ~Eg ~v5 ~Nf ~X8 ~Nb ~X7 ~Ed ~M6 ~X3 ~M3 ~M4 ~vOr ~Nv ~Np ~Bq ~Nt ~Nq ~vUp ~NB List.map_cons List.map_nil List.length_cons List.length_nil List.replicate_succ List.replicate_zero List.cons_append List.nil_append List.getElem?_cons_zero List.getElem?_cons_succ List.getElem?_nil List.set_cons_zero List.set_cons_succ List.drop_succ_cons List.drop_zero"
def L2.qL:="↓~aav ↓~Xl ↓~Rq ↓~aaw ↓~aax ↓~Xm ↓~Rr ↓~Xn ↓~Xo ↓~Xp ↓~aay ↓~Xq ~Q9 ~qC ~q2 ~KH ~q1 ~gm ~Zf ~Rc ~Ds ~Wt ~qOr ~Wu ~K1 ~Wv ~K3 ~qIf ~qFz ~Rf ~H_ ~lO ~Wy ~WD ~qIx ~Du ~Dv ~nSl ~WN ~WQ ~WR ~WT ~qI2 ~vL ~WW ~WY ~W4 ~K8 ~K_ ~La ~Ri ~Lb ~W6 ~W8 ~Ld ~Ib ~Lg ~W_ ~Dz ~mD ~Az ~pF ~A_ ~Xb ~Xc ~iqL ~vP ~Ln ~tr2 ~Sl.ev ~Sl.val ~Sl.mu ~Sl.put ~Rt.val ~Rt.sl ~lk ~P_ ~Aq ~toI ~isN ~jX ~eE ~fO ~back ~outs ~bU ~Av ~Ra ~Wr ~Rb ~FW ~KQ ~FZ ~KR ~D.int.injEq ~D.bl.injEq ~D.str.injEq ~D.lst.injEq ~D.tup.injEq ~D.atom.injEq ~Ev.fz.injEq ~Ev.ow.injEq Option.some.injEq List.cons.injEq exists_eq_left exists_eq_left' exists_eq_right exists_and_left exists_const exists_eq_right' exists_false false_and and_false List.map_cons List.map_nil List.length_cons List.length_nil Nat.reduceAdd Nat.reduceSub List.replicate_succ List.replicate_zero List.cons_append List.nil_append List.append_nil List.getElem?_cons_zero List.getElem?_cons_succ List.getElem?_nil List.set_cons_zero List.set_cons_succ List.drop_succ_cons List.drop_zero Bool.not_true Bool.not_false Bool.false_eq_true if_true if_false ite_true ite_false eq_self true_and and_true decide_eq_true_eq List.nodup_nil List.nodup_cons List.not_mem_nil not_false_eq_true Option.isSome_some reduceCtorEq ~CN ~Wq ~VD ~Qp ~FP Int.reduceToNat Int.reducePow Int.reduceLT Int.reduceLE Int.reduceNeg Nat.reduceLeDiff Int.reduceMul Int.reduceAdd Int.reduceSub Int.reduceEq Int.zero_add Int.reduceAbs Int.reduceNe Nat.reduceLT Nat.reducePow Int.cast_ofNat_Int or_true true_or Bool.not_eq_true' decide_eq_false_iff_not Bool.true_and Bool.and_true Bool.false_and Bool.and_false decide_true decide_false ~Sl.d.injEq ~Sl.bor.injEq ~Sl.own.injEq ~Rt.rd.injEq ~Rt.ro.injEq String.reduceBEq String.reduceEq String.reduceBNe Bool.or_true Bool.or_false Bool.true_or Bool.false_or ~aao ~aap ~aaq ~aar ~Xg ~Xh ite_not implies_true exists_eq exists_eq' ~ad0 ~ad1 ~ad2 ~ad3 ~ad4 ~ad5 ~ad6 ~ad7 ~ad8 ~ad9 ~aea ~aeb ~aec and_assoc ~WK ~D.p8.injEq ~Lr ~Ls ~Lw ~Lx ~iqV ~vR ~LC ~LK ~Xr ~Xu ~LR ~DQ ~iqS ~DR ~DW ~Xw ~tyD ~xfD ~nOr ~XS ~pJ ~Mh ~Mi ~XD ~Mq ~Mm ~XH ~Mt ~Mu ~XM ~XR ~V.ref.injEq ~V.int.injEq ~HO.lst.injEq ~XC ~jG.of ~MK ~Yg ~Bq ~kOf ~aaR ~MN ~Ea ~vIf ~RW ~Ef ~vY ~vZ ~Eg ~v5 ~Nf ~X8 ~Nb ~X7 ~Ed ~M6 ~X3 ~M3 ~M4 ~vOr ~Nv ~Br ~Np ~Bq ~Nt ~Nq ~vUp ~NB"
def L2.mS(s:String)(a:Array Lean.Syntax):Lean.Syntax:=Lean.Syntax.mkSep (a++((s.splitOn " ").map fun x=>L2.mM #[] ((if x.startsWith "↓" then "'↓ 1#simpPre 1null" else "0null")++" 0null %"++x.replace "↓" ""++" 3#simpLemma")).toArray) (Lean.mkAtom ",")
def L2.mX(a:Array Lean.Syntax):Lean.MacroM Lean.Syntax:=
 let k:=toString (a.getD 0 .missing)[2].getId++" "
 match ("L2.QL '( 'first '| 'exact %Or.inl %rfl 1null 2&app 2#exact^ 2group '| 'exact %Or.inr %rfl 1null 2&app 2#exact^ 2group 2null 2#first^ ') 3#paren\nHs '( 'exact '⟨ %rfl ', %rfl ', %rfl ', 'by 'decide '+ %kernel 2#posConfigItem 1#configItem 1null 1#optConfig 2#decide^ 2&byTactic ', %rfl ', 'by 'decide '+ %kernel 2#posConfigItem 1#configItem 1null 1#optConfig 2#decide^ 2&byTactic ', 'by 'decide '+ %kernel 2#posConfigItem 1#configItem 1null 1#optConfig 2#decide^ 2&byTactic =null '⟩ 3&anonymousCtor 2#exact^ ') 3#paren\nHo '( '( 'first '| 'refine %~hA %rfl} { '| 'refine %~hN} ` '| 'refine %~hA @ %~nbv %rfl 1null 2&app *} { '| 'refine %~hE @ %~hA %rfl} 2null 2&app * ` '| 'refine %~hE @ %~hE @ %~hA %rfl} 2null 2&app * 1null 2&app * ` '| 'refine %~hE @ %~hE @ %~hA %rfl @ %~hA %rfl} 2null 2&app * 2null 2&app * 1null 2&app * ` '| 'refine %~hC1 %rfl} { '| 'refine %~hC0 %rfl} { '| 'refine %~hL %rfl} { '| 'refine %~hX %rfl} { '| 'refine %~hT} ` '| 'refine %~hD %rfl} { '| 'refine %~hQ @ %~jF.int '_ 1&hole '_ 1&hole 2null 2&app *} { '| 'refine %~hQ @ %~jF.str '_ 1&hole '_ 1&hole 2null 2&app *} { '| 'refine %~hE @ %~hE @ %~hE @ %~hA %rfl} 2null 2&app * 1null 2&app * 1null 2&app * ` '| 'refine %~hE @ %~hE @ %~hE @ %~hA %rfl @ %~hA %rfl} 2null 2&app * 2null 2&app * 1null 2&app * 1null 2&app * ` '| 'refine %~hE @ %~hE @ %~hE @ %~hA %rfl @ %~hA %rfl @ %~hA %rfl} 2null 2&app * 2null 2&app * 2null 2&app * 1null 2&app * 1null 2&app * ` '| 'refine %~hE @ %~hE @ %~hE @ %~hE @ %~hA %rfl} 2null 2&app * 1null 2&app * 1null 2&app * 1null 2&app * ` '| 'refine %~hE @ %~hE @ %~hE @ %~hE @ %~hA %rfl @ %~hA %rfl @ %~hA %rfl} 2null 2&app * 2null 2&app * 2null 2&app * 1null 2&app * 1null 2&app * 1null 2&app * ` Cnull 2#first^ ') 3#paren^ ') 3#paren\nHh '( '( 'repeat 'simp 0null 1#optConfig 0null 'only 1null '[ 0null 0null %Ho 3#simpLemma 1null '] 3null 0null 6#simp^ 2#tacticRepeat_^ ') 3#paren^ ') 3#paren\nHg '( '( 'repeat '( '( 'fail_if_success '( 'with_reducible 'first '| 'refine %~hG} ` '| 'refine %~hV} ` 2null 2#first^ 2#withReducible^ ') 3#paren^ 2#failIfSuccess^ ') 3#paren '; 'simp 0null 1#optConfig 0null 'only 1null '[ 0null 0null %Ho 3#simpLemma 1null '] 3null 0null 6#simp 3null 1#tacticSeq1Indented 1#tacticSeq ') 3#paren^ 2#tacticRepeat_^ ') 3#paren^ ') 3#paren\nQ '( 'simp 0null 1#optConfig 0null 'only 1null '[ 0null 0null %Hg 3#simpLemma 1null '] 3null 0null 6#simp '; '( 'try 'dsimp 0null 1#optConfig 0null 'only 1null '[ $a '] 3null 0null 6#dsimp^ 2#tacticTry_^ ') 3#paren '; '( 'try 'simp 0null 1#optConfig 0null 'only 1null '[ $ab '] 3null 0null 6#simp^ 2#tacticTry_^ ') 3#paren 5null 1#tacticSeq1Indented 1#tacticSeq ') 3#paren\nR '( 'simp 0null 1#optConfig 0null 'only 1null '[ 0null 0null %Hg 3#simpLemma 1null '] 3null 0null 6#simp '; '( 'try 'dsimp 0null 1#optConfig 0null 'only 1null '[ $a '] 3null 0null 6#dsimp^ 2#tacticTry_^ ') 3#paren '; '( 'try 'simp 0null 1#optConfig 0null 'only 1null '[ $ab '] 3null 0null 6#simp^ 2#tacticTry_^ ') 3#paren 5null 1#tacticSeq1Indented 1#tacticSeq ') 3#paren\nS '( '( 'try 'dsimp 0null 1#optConfig 0null 'only 1null '[ $a '] 3null 0null 6#dsimp^ 2#tacticTry_^ ') 3#paren '; '( 'try 'simp 0null 1#optConfig 0null 'only 1null '[ $ab '] 3null 0null 6#simp^ 2#tacticTry_^ ') 3#paren 3null 1#tacticSeq1Indented 1#tacticSeq ') 3#paren".splitOn "\n").find? (·.startsWith k) with
 |none=>Lean.Macro.throwUnsupported
 |some r=>pure (L2.mM #[L2.mS L2.qD #[],L2.mS (if k=="Q " then L2.qL++" ~Ax ~uh" else L2.qL) (a.drop 1)] (r.drop k.length).toString)
local macro_rules|`(tactic|simp only [$xs,*])=>L2.mX xs
namespace K47
open PySem L2
def top (i:Nat):Stmt:=PySem.Challenge.pw_mirrorsums_k47_desk_answers.main.body.getD i (.Pass ⟨0,0,0,0⟩)
def Uy:Stmt->Nat->Stmt
 | .ClassDef (body:=b) ..,j=>b.getD j (.Pass ⟨0,0,0,0⟩)
 | s,_=>s
structure Txt (mg:Str->Option Value):Prop where
 gW:mg "isinstance"=none
 jK:mg "int"=none
 Ys:mg "bool"=none
 Yt:mg "list"=none
 fH:mg "len"=none
 fG:mg "range"=none
 Ox:mg "min"=none
 By:mg "divmod"=none
 mU:mg "reversed"=none
 Uz:mg "zip"=none
 dH:mg "str"=none
 dW:∃t,mg "LEAST_BASE"=some (.int 2 t)
 cB:∃t,mg "GREATEST_BASE"=some (.int 36 t)
 jB:∃t,mg "FIRST_BASE"=some (.int 10 t)
 cO:∃t,mg "MOST_FIGURES"=some (.int 41 t)
 fP:∃t,mg "FIGURES_OF_TEN"=some (.str "0123456789" t)
 iR:∃t,mg "WAY_OF_NONE"=some (.str "0" t)
set_option genInjectivity false in
structure XA where
 bH:Addr
 fQ:Addr
 cF:Addr
 dz:Addr
structure XT (K:PySem.W.Frag) (mg:Str->Option Value) (cs:XA):Prop where
 eV:uD K mg "NoCommand" cs.bH
 BJ:uD K mg "NoBase" cs.fQ
 tM:uD K mg "NoMirror" cs.cF
 pO:uD K mg "NoPlace" cs.dz
 mV:PySem.W.subIn K (.ref cs.bH) (.ref cs.fQ)=some false
 kj:PySem.W.subIn K (.ref cs.bH) (.ref cs.cF)=some false
 lK:PySem.W.subIn K (.ref cs.bH) (.ref cs.dz)=some false
 jM:PySem.W.subIn K (.ref cs.bH) (.ref cs.bH)=some true
 qw:PySem.W.subIn K (.ref cs.fQ) (.ref cs.fQ)=some true
 GZ:PySem.W.subIn K (.ref cs.fQ) (.ref cs.cF)=some false
 Ja:PySem.W.subIn K (.ref cs.fQ) (.ref cs.dz)=some false
 Eu:PySem.W.subIn K (.ref cs.fQ) (.ref cs.bH)=some false
 oG:PySem.W.subIn K (.ref cs.cF) (.ref cs.fQ)=some false
 lM:PySem.W.subIn K (.ref cs.cF) (.ref cs.cF)=some true
 Ew:PySem.W.subIn K (.ref cs.cF) (.ref cs.dz)=some false
 BK:PySem.W.subIn K (.ref cs.cF) (.ref cs.bH)=some false
 pP:PySem.W.subIn K (.ref cs.dz) (.ref cs.fQ)=some false
 mW:PySem.W.subIn K (.ref cs.dz) (.ref cs.cF)=some false
 oH:PySem.W.subIn K (.ref cs.dz) (.ref cs.dz)=some true
 Cv:PySem.W.subIn K (.ref cs.dz) (.ref cs.bH)=some false
theorem BL (ds:List D):∀(i:Nat) (s:Sl),(ds.map Sl.d)[i]? = some s->∃d,s=.d d:=λi s h=>by
 rw [zO] at h
 cases e:ds[i]? with
 | none=>rw [e] at h;cases h
 | some d=>rw [e] at h;cases h;exact ⟨d,rfl⟩
abbrev abd:Stmt:=top 71
theorem abe:au ["cell","k"] ["cell","k"] (aa abd):=by simp only [Hs]
abbrev s_c:Stmt:=top 70
theorem Oz:au ["deck","many","come","number"] ["deck","many"] (aa s_c):=by simp only [Hs]
abbrev s_o:Stmt:=top 72
theorem BP:au ["deck","most","length","way","number","k","figure"] ["deck","most"] (aa s_o):=by simp only [Hs]
abbrev s_m:Stmt:=top 9
theorem aeB:au ["thing"] ["thing"] (aa s_m):=by simp only [Hs]
abbrev s_a:Stmt:=top 10
theorem abf:au ["thing"] ["thing"] (aa s_a):=by simp only [Hs]
abbrev s_N:Stmt:=top 14
theorem Ss:au ["base","many","product","step"] ["base","many"] (aa s_N):=by simp only [Hs]
abbrev s_T:Stmt:=top 16
theorem aeC:au ["number","length","base"] ["number","length","base"] (aa s_T):=by simp only [Hs]
abbrev s_s:Stmt:=top 11
theorem OD:au ["number","base","row","left","figure"] ["number","base"] (aa s_s):=by simp only [Hs]
abbrev s_h:Stmt:=top 17
theorem Jb:au ["front","length","base","mirrored","left","figure"] ["front","length","base"] (aa s_h):=by simp only [Hs]
abbrev abg:Stmt:=top 18
theorem OJ:au ["number","base","length","front"] ["number","base"] (aa abg):=by simp only [Hs]
abbrev s_j:Stmt:=top 15
theorem aeD:au ["length","base"] ["length","base"] (aa s_j):=by simp only [Hs]
abbrev s_u:Stmt:=top 20
theorem Su:au ["number","base","length","front","mirrored"] ["number","base"] (aa s_u):=by simp only [Hs]
abbrev s_C:Stmt:=top 81
theorem BR:au ["deck","state","heads","head","many","number"] ["deck","state"] (aa s_C):=by simp only [Hs]
abbrev s_V:Stmt:=top 77
theorem Sv:au ["deck","some"] ["deck"] (aa s_V):=by simp only [Hs]
abbrev s_A:Stmt:=top 35
theorem abh:au ["word","most","sign"] ["word","most"] (aa s_A):=by simp only [Hs]
abbrev s_f:Stmt:=top 65
theorem Sw:au ["word","bound","number"] ["word","bound"] (aa s_f):=by simp only [Hs]
abbrev s_e:Stmt:=top 66
theorem BV:au ["words","first","others","bounds"] ["words"] (aa s_e):=by simp only [Hs]
abbrev s_H:Stmt:=top 52
theorem aeF:au ["base","numbers"] ["base","numbers"] (aa s_H):=by simp only [Hs]
abbrev s_g:Stmt:=top 12
theorem abi:au ["thing","base","row"] ["thing","base"] (aa s_g):=by simp only [Hs]
abbrev abj:Stmt:=top 53
theorem abk:au ["base","numbers"] ["base","numbers"] (aa abj):=by simp only [Hs]
abbrev s_O:Stmt:=top 54
theorem aeG:au ["base","numbers"] ["base","numbers"] (aa s_O):=by simp only [Hs]
abbrev s_I:Stmt:=top 21
theorem Sx:au ["number","base","length","front","mirrored"] ["number","base"] (aa s_I):=by simp only [Hs]
abbrev s_R:Stmt:=top 55
theorem aeH:au ["base","numbers"] ["base","numbers"] (aa s_R):=by simp only [Hs]
abbrev s_n:Stmt:=top 19
theorem aeI:au ["length","base"] ["length","base"] (aa s_n):=by simp only [Hs]
abbrev s_q:Stmt:=top 24
theorem Sy:au ["thing","base","length","behind"] ["thing","base"] (aa s_q):=by simp only [Hs]
abbrev s_Y:Stmt:=top 22
theorem aeJ:au ["number","base"] ["number","base"] (aa s_Y):=by simp only [Hs]
abbrev s_Q:Stmt:=top 56
theorem aeK:au ["base","numbers"] ["base","numbers"] (aa s_Q):=by simp only [Hs]
abbrev s_v:Stmt:=top 23
theorem SJ:au ["place","base","length","behind"] ["place","base"] (aa s_v):=by simp only [Hs]
abbrev abl:Stmt:=top 57
theorem abm:au ["base","numbers"] ["base","numbers"] (aa abl):=by simp only [Hs]
abbrev s_t:Stmt:=top 58
theorem abn:au ["base","numbers"] ["base","numbers"] (aa s_t):=by simp only [Hs]
abbrev s_E:Stmt:=top 36
theorem aeM:au ["way"] ["way"] (aa s_E):=by simp only [Hs]
abbrev abo:Stmt:=top 27
theorem BW:au ["number","base","told","left","greatest"] ["number","base"] (aa abo):=by simp only [Hs]
abbrev s_X:Stmt:=top 59
theorem aeN:au ["base","numbers"] ["base","numbers"] (aa s_X):=by simp only [Hs]
abbrev s_d:Stmt:=top 25
theorem Jc:au ["bound","base","told","length","least","front","mirrored"] ["bound","base"] (aa s_d):=by simp only [Hs]
abbrev Yu:Stmt:=top 38
theorem abp:au ["number","base"] ["number","base"] (aa Yu):=by simp only [Hs]
abbrev s_G:Stmt:=top 39
theorem aeO:au ["number","base"] ["number","base"] (aa s_G):=by simp only [Hs]
abbrev s_W:Stmt:=top 60
theorem aeP:au ["base","numbers"] ["base","numbers"] (aa s_W):=by simp only [Hs]
abbrev s_D:Stmt:=top 29
theorem Yv:au ["number","parts","known","lesser","greater"] ["number","parts","known"] (aa s_D):=by simp only [Hs]
abbrev s_k:Stmt:=top 30
theorem SM:au ["number","many","parts","known","part","others"] ["number","many","parts","known"] (aa s_k):=by simp only [Hs]
abbrev s_M:Stmt:=top 31
theorem Ex:au ["number","base","parts","known","many","way"] ["number","base"] (aa s_M):=by simp only [Hs]
abbrev s_K:Stmt:=top 61
theorem aeR:au ["base","numbers"] ["base","numbers"] (aa s_K):=by simp only [Hs]
abbrev s_Z:Stmt:=top 41
theorem aeS:au ["part","size","number","many"] ["part","size","number","many"] (aa s_Z):=by simp only [Hs]
abbrev abq:Stmt:=top 42
theorem BX:au ["part","rows","number","many","size","row","shorter","total"] ["part","rows","number","many"] (aa abq):=by simp only [Hs]
abbrev s_F:Stmt:=top 44
theorem Yw:au ["parts","number","many","rows","part"] ["parts","number","many"] (aa s_F):=by simp only [Hs]
abbrev s_U:Stmt:=top 46
theorem abr:au ["number","base","many","rows"] ["number","base","many"] (aa s_U):=by simp only [Hs]
abbrev s_J:Stmt:=top 62
theorem Yx:au ["base","numbers","number","many"] ["base","numbers"] (aa s_J):=by simp only [Hs]
abbrev s_p:Stmt:=top 45
theorem aeU:au ["part","rows","number","many"] ["part","rows","number","many"] (aa s_p):=by simp only [Hs]
abbrev s_L:Stmt:=top 43
theorem O1:au ["part","rows","number","many","size","row","shorter","total"] ["part","rows","number","many"] (aa s_L):=by simp only [Hs]
abbrev s_z:Stmt:=top 47
theorem oJ:au ["number","base","many","place","parts","rows","way","left","ahead","part","here"] ["number","base","many","place"] (aa s_z):=by simp only [Hs]
abbrev s_l:Stmt:=top 63
theorem BZ:au ["base","numbers","number","many","place"] ["base","numbers"] (aa s_l):=by simp only [Hs]
abbrev O2:Stmt:=Uy (top 67) 1
theorem cP:au ["self","words","first","numbers","answer"] ["self","words"] (aa O2):=by simp only [Hs]
abbrev s_i:Stmt:=top 75
theorem um:au ["desk","words","answer"] ["desk","words"] (aa s_i):=by simp only [Hs]
abbrev s_B:Stmt:=top 73
theorem Yy:au ["number","base","found"] ["number","base"] (aa s_B):=by simp only [Hs]
abbrev s_r:Stmt:=top 74
theorem abt:au ["number","base","told"] ["number","base"] (aa s_r):=by simp only [Hs]
abbrev s_x:Stmt:=top 78
theorem O3:au ["number","base","many","most","found","first","rest"] ["number","base","many","most"] (aa s_x):=by simp only [Hs]
abbrev s_w:Stmt:=top 76
theorem aeW:au ["way"] ["way"] (aa s_w):=by simp only [Hs]
abbrev s_y:Stmt:=top 79
theorem aeY:au ["base","head","number"] ["base","head","number"] (aa s_y):=by simp only [Hs]
abbrev s_S:Stmt:=top 80
theorem abu:au ["state","head","numbers","ways"] ["state","head","numbers"] (aa s_S):=by simp only [Hs]
abbrev Yz:Stmt:=Uy (top 67) 0
theorem abv:au ["self"] ["self"] (aa Yz):=by simp only [Hs]
abbrev O4:Stmt:=top 82
theorem eG:au ["script","desks","states","k","deck","at","words","due","head","numbers","number"] ["script"] (aa O4):=by simp only [Hs]
inductive O5 (K:PySem.W.Frag):List (Str × Addr)->List (Str × List Int)->Prop
 | nil:O5 K [] []
 | cons {x:Str} {a:Addr} {ns:List Int} {T:List (Str × Addr)} {B:List (Str × List Int)}:Qd K a ns->O5 K T B->O5 K ((x,a)::T) ((x,ns)::B)
set_option genInjectivity false in
structure Zs (K:PySem.W.Frag) (mg:Str->Option Value) (cs:XA) extends Txt mg,XT K mg cs where
 mX:aO K mg "_law_deck" abd ["cell","k"]
 aM:aO K mg "_law_take" s_c ["deck","many"]
 gY:aO K mg "_law_number" s_o ["deck","most"]
 eH:aO K mg "is_whole" s_m ["thing"]
 aG:aO K mg "check_base" s_a ["thing"]
 jC:aO K mg "power" s_N ["base","many"]
 jD:aO K mg "front_of" s_T ["number","length","base"]
 fU:aO K mg "figures" s_s ["number","base"]
 cW:aO K mg "from_front" s_h ["front","length","base"]
 oK:aO K mg "folded" abg ["number","base"]
 di:aO K mg "least_front" s_j ["length","base"]
 fV:aO K mg "at_most" s_u ["number","base"]
 kE:aO K mg "_law_asked" s_C ["deck","state"]
 pQ:aO K mg "_law_bad" s_V ["deck"]
 gZ:aO K mg "is_written" s_A ["word","most"]
 cI:aO K mg "read_number" s_f ["word","bound"]
 b_:aO K mg "read_row" s_e ["words"]
 bJ:aO K mg "answer_figures" s_H ["base","numbers"]
 cJ:aO K mg "is_mirrored" s_g ["thing","base"]
 dI:aO K mg "answer_is" abj ["base","numbers"]
 cj:aO K mg "answer_below" s_O ["base","numbers"]
 jE:aO K mg "at_least" s_I ["number","base"]
 cu:aO K mg "answer_above" s_R ["base","numbers"]
 cQ:aO K mg "many_to_length" s_n ["length","base"]
 dJ:aO K mg "place_of" s_q ["thing","base"]
 lE:aO K mg "many_to" s_Y ["number","base"]
 cz:aO K mg "answer_count" s_Q ["base","numbers"]
 gf:aO K mg "mirrored_at" s_v ["place","base"]
 dM:aO K mg "answer_at" abl ["base","numbers"]
 bf:aO K mg "answer_place" s_t ["base","numbers"]
 fW:aO K mg "show_way" s_E ["way"]
 qY:aO K mg "a_few" abo ["number","base"]
 cX:aO K mg "answer_few" s_X ["base","numbers"]
 cL:aO K mg "mirrored_to" s_d ["bound","base"]
 tQ:aO K mg "by_two" Yu ["number","base"]
 gh:aO K mg "many_by_two" s_G ["number","base"]
 cY:aO K mg "answer_two" s_W ["base","numbers"]
 gM:aO K mg "greatest_pair" s_D ["number","parts","known"]
 cA:aO K mg "greatest_way" s_k ["number","many","parts","known"]
 oM:aO K mg "fewest" s_M ["number","base"]
 bT:aO K mg "answer_fewest" s_K ["base","numbers"]
 oO:aO K mg "totals" s_Z ["part","size","number","many"]
 tR:aO K mg "put_in" abq ["part","rows","number","many"]
 jk:aO K mg "rows_of" s_F ["parts","number","many"]
 kI:aO K mg "many_ways" s_U ["number","base","many"]
 cM:aO K mg "answer_ways" s_J ["base","numbers"]
 dB:aO K mg "many_with_first" s_p ["part","rows","number","many"]
 mY:aO K mg "take_out" s_L ["part","rows","number","many"]
 jm:aO K mg "way_at" s_z ["number","base","many","place"]
 bz:aO K mg "answer_way" s_l ["base","numbers"]
 dN:aO K mg "_law_said" s_i ["desk","words"]
 gj:aO K mg "_law_figures" s_B ["number","base"]
 dO:aO K mg "_law_mirrored" s_r ["number","base"]
 eN:aO K mg "_law_ways" s_x ["number","base","many","most"]
 dZ:aO K mg "_law_written" s_w ["way"]
 fX:aO K mg "_law_due_of_one" s_y ["base","head","number"]
 jn:aO K mg "_law_due" s_S ["state","head","numbers"]
 uT:aO K mg "law" O4 ["script"]
 aB:Addr
 tB:List (Str × Addr)
 mB:mg "BOUNDS"=some (.ref aB)
 kB:KTb K aB tB
 bB:O5 K tB TX.BT
 aA:Addr
 mA:mg "ANSWERS"=some (.ref aA)
 kA:KTb K aA [("figures",bJ.f),("is",dI.f),("below",cj.f),("above",cu.f),("count",cz.f),("at",dM.f),("place",bf.f),("few",cX.f),("two",cY.f),("fewest",bT.f),("ways",cM.f),("way",bz.f)]
 cl:Addr
 mC:mg "Desk"=some (.ref cl)
 cls:vh K cl
 na:iK K cl "base"
 O6:Addr
 say:Meth K cl "say" O6
 B_:FuncData
 YB:tZ K "say" "Desk.say" O2 O6 B_
 YC:Binds K B_ ["self","words"] []
 YD:Addr
 mkd:Mk K cl YD
 O7:FuncData
 aeZ:tZ K "__init__" "Desk.__init__" Yz YD O7
 UG:Binds K O7 ["self"] []
abbrev Ok (P:Program) (w:World) (base:Heap) (k:Nat) {K:PySem.W.Frag} {mg:Str->Option Value} {x:Str} {st:Stmt} {ps:List Str} (d:aO K mg x st ps) (S:eZ):=bY P w K mg base m8 k d.f d.fd ps (DK K S)
abbrev YF (P:Program) (w:World) (base:Heap) (k:Nat) {K:PySem.W.Frag} {mg:Str->Option Value} {x:Str} {st:Stmt} {ps:List Str} (d:aO K mg x st ps) (S:Cu):=bY P w K mg base m8 k d.f d.fd ps (Jk K S)
abbrev OkH (P:Program) (w:World) (base:Heap) (k:Nat) {K:PySem.W.Frag} {mg:Str->Option Value} {x:Str} {st:Stmt} {ps:List Str} (d:aO K mg x st ps) (S:Rk):=bY P w K mg base m8 k d.f d.fd ps (Zg K S)
abbrev YG (P:Program) (w:World) (base:Heap) (k:Nat) {K:PySem.W.Frag} {mg:Str->Option Value} {x:Str} {st:Stmt} {ps:List Str} (d:aO K mg x st ps) (S:Ik):=bY P w K mg base (oV P w) k d.f d.fd ps (spX K S)
section
variable (P:Program) (w:World) {K:PySem.W.Frag} {mg:Str->Option Value} (base:Heap) {cs:XA}
theorem aq {t R:iU} {E:jb} {p:aQ} (h:∀k:aQ->Prop,(∀p',R E p'->k p')->t { E with nx:=k } p):Ax t R E p:=h (R E) (λ_ h=>h)
def S_m:eZ:=λas R=>∃x a b,as=[.d x]/\Av "int" x=some a/\Av "bool" x=some b/\R (.rd (.bl (a && !b))) as
theorem O8 (T:Zs K mg cs):Ok P w base 1 T.eH S_m:=by
 refine T.eH.F.gC aeB (λas R h=>?_) (λB A outer s H E C as R n z h=>?_)
 ·obtain ⟨_,_,_,rfl,_⟩:=h;rfl
 have D:=z.units
 obtain ⟨x,a,b,rfl,h1,h2,q⟩:=h
 refine ⟨_,(sr (Ww (vM (T:="int") n (by first|exact .inl rfl|exact .inr (.inl rfl)|exact .inr (.inr (.inl rfl))|exact .inr (.inr (.inr (.inl rfl)))|exact .inr (.inr (.inr (.inr rfl)))) rfl T.gW (a2 (qv 0) (oW (qG (v:=.ty "int") rfl T.jK (by kernel_rfl) rfl) (λ_=>.atom _)))) (T6 (Wx (vM (T:="bool") n (by first|exact .inl rfl|exact .inr (.inl rfl)|exact .inr (.inr (.inl rfl))|exact .inr (.inr (.inr (.inl rfl)))|exact .inr (.inr (.inr (.inr rfl)))) rfl T.gW (a2 (qv 0) (oW (qG (v:=.ty "bool") rfl T.Ys (by kernel_rfl) rfl) (λ_=>.atom _)))))))),?_⟩;simp only [Q,and_assoc]
 cases x<;>first|(cases h1;done)|skip
 all_goals (cases h1;cases h2;simp only [Q])
 all_goals first|exact q|exact ⟨_,rfl,q⟩
def S_a:eZ:=λas R=>∃b:Int,as=[.d (.int b)]/\2<=b/\b<=36/\R (.rd .non) as
theorem jN (T:Zs K mg cs):Ok P w base 2 T.aG S_a:=by
 have B:=O8 P w base T
 obtain ⟨z,dW⟩:=T.dW
 obtain ⟨n,cB⟩:=T.cB
 refine T.aG.F.gC abf (λas R h=>?_) (λJ A outer s H E C as R I D h=>?_)
 ·obtain ⟨_,rfl,_⟩:=h;rfl
 have Y:=D.units
 obtain ⟨b,rfl,U,O,q⟩:=h
 refine ⟨_,(aL (bx (PW.pt (w_or (iC (gP (ak (aj I T.eH B D.m (a1 (qv 0)))))) (uF (iC (vK rF rF (oW (e_ (v:=.int 2) rfl dW ⟨_,rfl⟩) (λ_=>.int _)) (qv 0) (oW (e_ (v:=.int 36) rfl cB ⟨_,rfl⟩) (λ_=>.int _))))))) (aL pD) aP)),?_⟩;simp only [Q,and_assoc,S_m]
 rw [zm U,zm O]
 exact q
def S_s:eZ:=λas R=>∃n b:Int,as=[.d (.int n),.d (.int b)]/\0<=n/\n<M.sZ/\2<=b/\b<=36/\R (.ro ((M.fg b n).map D.int)) as
theorem O9 (T:Zs K mg cs):Ok P w base 3 T.fU S_s:=by
 have Y:=jN P w base T
 refine T.fU.F.gC OD (λas R h=>?_) (λcdv A outer s H E C as R J hr h=>?_)
 ·obtain ⟨_,_,rfl,_⟩:=h;rfl
 have hu:=hr.units
 obtain ⟨n,b,rfl,Z,n1,U,b1,q⟩:=h
 refine ⟨_,(bh (nO (ak (aj J T.aG Y hr.m (a1 (qv 1)))))
    (bh (gG (i:=2) OD.nd rfl lc (bG dY))
    (bh (aU (i:=3) OD.nd rfl lc (qv 0))
    (bh (Ih zL (Dr (qv 3) (qv 1)) (bh (fj (uG rfl T.By (a2 (qv 3) (qv 1))) (jc (n:=2) J rfl (aV (aH (i:=3) OD.nd rfl lc) (aV (aH (i:=4) OD.nd rfl lc) dF))))
    (aL (nO (gn J (pv 2) (a1 (qv 4)))))))
    (bh (nO (gn J (pv 2) (a1 (qv 3))))
    (bh (nO (Ia J (pv 2)))
    (aL (mj (i:=2) (pv 2))))))))),?_⟩
 simp only [Hh]
 refine ⟨U,b1,?_⟩
 simp only [Hh]
 dsimp only
 refine cV ?_
 obtain ⟨I,O⟩:∃I:aQ->Prop,I=(λp=>∃(B:List Int) (z:Int) (v:Option D),p=[some (.d (.int n)),some (.d (.int b)),some (.own (B.map D.int)),some (.d (.int z)),Option.map Sl.d v]/\M.IK b n B z):=⟨_,rfl⟩
 refine kY I (λp=>match p[3]? with|some (some (Sl.d (D.int r)))=>r.toNat|_=>0) (by rw [O];exact ⟨[],n,none,rfl,M.IK.start U Z⟩) ?_
 intro p hp
 rw [O] at hp
 obtain ⟨B,z,v,rfl,g⟩:=hp
 have len:=g.len (by rw [<-M.lA];exact n1)
 simp only [Hh]
 refine pK (λc=>?_) (λc=>?_)
 ·have:=Int.ediv_lt_self_of_pos_of_ne_one (show 0<z by omega) (show b≠1 by omega)
  simp only [Hh]
  refine ⟨⟨by omega,by omega⟩,?_⟩
  simp only [Hh]
  refine ⟨by rw [zd];omega,?_⟩
  simp only [Hh]
  refine ⟨by rw [O];exact ⟨B++[z % b],z / b,some (.int (z % b)),by rw [yf];rfl,g.turn c⟩,show (z / b).toNat<z.toNat by omega⟩
 ·have e:(List.map D.int B++[D.int z]).reverse=(M.fg b n).map D.int:=by
   rw [<-(g.done (by omega)).fg U Z,xr,yf];rfl
  simp only [Hh]
  refine ⟨by rw [zd];omega,?_⟩
  simp only [Hh]
  rw [<-e] at q
  exact q
def S_g:eZ:=λas R=>∃n b:Int,as=[.d (.int n),.d (.int b)]/\0<=n/\n<M.sZ/\2<=b/\b<=36/\R (.rd (.bl (M.bQ b n))) as
theorem O_ (T:Zs K mg cs):Ok P w base 4 T.cJ S_g:=by
 have O:=jN P w base T
 have I:=O9 P w base T
 have J:=O8 P w base T
 refine T.cJ.F.gC abi (λas R h=>?_) (λcdv A outer s H E C as R z B h=>?_)
 ·obtain ⟨_,_,rfl,_⟩:=h;rfl
 have hu:=B.units
 obtain ⟨n,b,rfl,U,n1,Z,Y,q⟩:=h
 refine ⟨_,(bh (nO (ak (aj z T.aG O B.m (a1 (qv 1)))))
    (bh (bx (PW.pt (w_or (iC (gP (ak (aj z T.eH J B.m (a1 (qv 0)))))) (uF (rT (qv 0) qi)))) (sr (oW nq (λ_=>.bl _))) aP)
    (bh (aU (i:=2) abi.nd rfl lc (ak (aj z T.fU I B.m (a2 (qv 0) (qv 1)))))
    (sr (T9 z hu (qv 2) (ak (K6 z (qv 2)))))))),?_⟩
 simp only [Hh]
 refine ⟨Z,Y,?_⟩
 simp only [Hh]
 refine pK (λc=>absurd U (Int.not_le.mpr c)) (λc=>?_)
 simp only [Hh]
 refine ⟨U,n1,Z,Y,?_⟩
 simp only [Hh]
 refine ⟨xM.ints _,by rw [<-xr];exact xM.ints _,?_⟩
 simp only [Hh]
 have e:Bg (.lst ((M.fg b n).map D.int)) (.lst ((M.fg b n).map D.int).reverse)=M.bQ b n:=by
  rw [<-xr,jg];rfl
 rw [<-e] at q
 exact q
def S_N:eZ:=λas R=>∃(b:Int) (m:Int),as=[.d (.int b),.d (.int m)]/\0<=b/\b<=36/\m<100000/\-100<m/\R (.rd (.int (b ^ m.toNat))) as
theorem SN (T:Zs K mg cs):Ok P w base 1 T.jC S_N:=by
 refine T.jC.F.gC Ss (λas R h=>?_) (λJ A outer s H E C as R Z D h=>?_)
 ·obtain ⟨_,_,rfl,_⟩:=h;rfl
 have Y:=D.units
 obtain ⟨b,m,rfl,b0,b1,U,O,q⟩:=h
 refine ⟨_,(bh (aU (i:=2) Ss.nd rfl lc qi)
    (bh (nR zL rfl (nP rfl T.fG (a1 (qv 1))) (aH (i:=3) Ss.nd rfl lc) (aL (adQ (i:=2) Ss.nd rfl lc (qv 0))))
    (sr (qv 2)))),?_⟩;simp only [Q,and_assoc]
 obtain ⟨I,B⟩:∃I:Nat->aQ->Prop,I=(λi p=>∃v,p=[some (.d (.int b)),some (.d (.int m)),some (.d (.int (b ^ i))),Option.map Sl.d v]):=⟨_,rfl⟩
 refine sE (n:=m.toNat) (item:=λi=>.int i) (p1:=_) (λQ h=>by simp only [Q];exact ⟨by omega,by omega,h⟩) I (by rw [B];exact ⟨none,by rw [xC];rfl⟩) ?_ ?_
 ·intro i p hi z
  rw [B] at z
  obtain ⟨v,rfl⟩:=z
  simp only [Q]
  refine ⟨by omega,by rw [B];exact ⟨some (.int i),by rw [zJ];rfl⟩⟩
 ·intro p z
  rw [B] at z
  obtain ⟨v,rfl⟩:=z
  simp only [Hh]
  exact q
def S_j:eZ:=λas R=>∃(L:Nat) (b:Int),as=[.d (.int (L:Int)),.d (.int b)]/\0<=b/\b<=36/\L<=90000/\R (.rd (.int (b ^ (M.hf L - 1)))) as
theorem SQ (T:Zs K mg cs):Ok P w base 2 T.di S_j:=by
 have n:=SN P w base T
 refine T.di.F.gC aeD (λas R h=>?_) (λD A outer s H E C as R B z h=>?_)
 ·obtain ⟨_,_,rfl,_⟩:=h;rfl
 have U:=z.units
 obtain ⟨L,b,rfl,J,I,O,q⟩:=h
 refine ⟨_,(aL (bI (aj B T.jC n z.m (a2 (qv 1) (bV (iM (cT (qv 0) qi) qi) qi))))),?_⟩
 simp only [Hh]
 have e:(((L:Int)+1) / 2 - 1).toNat=M.hf L - 1:=by unfold M.hf;omega
 rw [e]
 exact ⟨J,I,by omega,by omega,q⟩
def S_T:eZ:=λas R=>∃(n:Int) (L:Nat) (b:Int),as=[.d (.int n),.d (.int (L:Int)),.d (.int b)]/\2<=b/\b<=36/\L<=90000/\b ^ (L / 2)<2 ^ 4000/\R (.rd (.int (n / b ^ (L / 2)))) as
theorem abx (T:Zs K mg cs):Ok P w base 2 T.jD S_T:=by
 have z:=SN P w base T
 refine T.jD.F.gC aeC (λas R h=>?_) (λJ A outer s H E C as R I B h=>?_)
 ·obtain ⟨_,_,_,rfl,_⟩:=h;rfl
 have Y:=B.units
 obtain ⟨n,L,b,rfl,Z,O,U,D,q⟩:=h
 refine ⟨_,(sr (iM (qv 0) (ak (aj I T.jC z B.m (a2 (qv 2) (iM (qv 1) qi)))))),?_⟩;simp only [Q,and_assoc,S_N]
 have e:((L:Int) / 2).toNat=L / 2:=by omega
 rw [e]
 have p:=M.aC (show 0<b by omega) (L / 2)
 exact ⟨by omega,O,by omega,by omega,p,.inr (Fits.of p D (by decide)),q⟩
theorem SX (L:Nat):Builtin.bitAnd (L:Int) 1=((L % 2:Nat):Int):=by
 rw [PyProof.Rows.bitAnd_pp (by omega) (by decide)]
 congr 1
 show (L &&& 1)=_
 exact Nat.and_one_is_mod L
def mZ (b f:Int) (L:Nat):Int:=if f=0 then 0 else M.gw b f L
def S_h:eZ:=λas R=>∃(f:Int) (L:Nat) (b:Int),as=[.d (.int f),.d (.int (L:Int)),.d (.int b)]/\2<=b/\b<=36/\L<=90000/\((f=0/\L=1)\/M.Fr b f L)/\R (.rd (.int (mZ b f L))) as
theorem Pa (T:Zs K mg cs):Ok P w base 1 T.cW S_h:=by
 refine T.cW.F.gC Jb (λas R h=>?_) (λcdv A outer s H E C as R hK hr h=>?_)
 ·obtain ⟨_,_,_,rfl,_⟩:=h;rfl
 have hu:=hr.units
 obtain ⟨f,L,b,rfl,b0,b1,l1,hf,q⟩:=h
 -- the Gr that come again
 obtain ⟨ts,hts,G3,hl0,B⟩:∃ts:List Int,((∀d∈ts,0<=d/\d<b)/\(ts=[]\/ts.head?≠some 0)/\(mZ b f L=M.val b ts.reverse+f * b ^ ts.length))/\∃G3:Int,G3=M.val b ts/\(if L % 2=0 then f else f / b)=G3:=by
  rcases hf with ⟨rfl,rfl⟩|F
  ·exact ⟨[],⟨λd hd=>absurd hd yJ,.inl rfl,by simp [mZ,M.val]⟩,0,rfl,by simp⟩
  ·have d:=M.d9 b0 (show 0<=f by have:=F.pos;omega)
   have hl:=F.len
   have hd:=d.pos (by have:=F.pos;omega)
   have hL:=F.L1
   refine ⟨(M.fg b f).take (L / 2),⟨λx Z=>d.jH x (xl Z),?_,?_⟩,_,rfl,?_⟩
   ·match M.fg b f,L / 2,hd with
    | x::r,0,_=>exact .inl rfl
    | [],_,_=>exact .inl (by simp)
    | x::r,k+1,hd=>exact .inr (by simpa using hd)
   ·have hz:f≠0:=by have:=F.pos;omega
    unfold mZ
    rw [zi hz]
    unfold M.gw
    rw [M.wg,d.val,yP]
    omega
   ·by_cases Y:L % 2=0
    ·rw [zm Y]
     have e:L / 2=(M.fg b f).length:=by rw [hl];unfold M.hf;omega
     rw [e,List.take_length,d.val]
    ·rw [zi Y]
     have e:L / 2=(M.fg b f).length - 1:=by rw [hl];unfold M.hf;omega
     have:=(M.pM b0 d 1 (by rw [hl];unfold M.hf;omega)).1
     rw [zJ,xC,xm] at this
     rw [e];exact this
 obtain ⟨tr,th,tv⟩:=hts
 refine ⟨_,(bh (aU (i:=3) Jb.nd rfl lc (qv 0))
    (bh (aU (i:=4) Jb.nd rfl lc (jt (dh hK hu (aab (qv 1) qi) qi) (qv 0) (iM (qv 0) (qv 2))))
    (bh (Ih zL (HX (qv 4) qi) (bh (fj (uG rfl T.By (a2 (qv 4) (qv 2))) (jc (n:=2) hK rfl (aV (aH (i:=4) Jb.nd rfl lc) (aV (aH (i:=5) Jb.nd rfl lc) dF))))
    (aL (aU (i:=3) Jb.nd rfl lc (cT (jV (qv 3) (qv 2)) (qv 5))))))
    (sr (qv 3))))),?_⟩
 refine cV ?_
 simp only [R]
 refine cD (λp=>p=[some (.d (.int f)),some (.d (.int (L:Int))),some (.d (.int b)),some (.d (.int f)),some (.d (.int G3)),none]) (λk hk=>?_) ?_
 ·simp only [Q]
  rw [SX]
  refine eX (λc=>?_) (λc=>?_)
  ·rw [zm (by omega)] at B
   rw [<-B] at hk
   exact hk _ rfl
  ·rw [zi (by omega)] at B
   rw [<-B] at hk
   exact ⟨by omega,.inl (by omega),hk _ rfl⟩
 rintro p rfl
 refine cV ?_
 obtain ⟨I,hI⟩:∃I:aQ->Prop,I=(λp=>∃(O vs:List Int) (v:Option D),ts=O++vs/\p=[some (.d (.int f)),some (.d (.int (L:Int))),some (.d (.int b)),some (.d (.int (f * b ^ vs.length+M.val b vs.reverse))),some (.d (.int (M.val b O))),Option.map Sl.d v]):=⟨_,rfl⟩
 refine kY I (λp=>match p[4]? with|some (some (Sl.d (D.int r)))=>r.toNat|_=>0) (by rw [hI];exact ⟨ts,[],none,by simp,by rw [hl0];simp [M.val]⟩) ?_
 intro p Y
 rw [hI] at Y
 obtain ⟨O,vs,v,e,rfl⟩:=Y
 have U:∀d∈O,0<=d/\d<b:=λd hd=>tr d (by rw [e];exact yM _ hd)
 have u0:=M.j7 (show 0<=b by omega) U
 simp only [Hh]
 refine pK (λc=>?_) (λc=>?_)
 ·have hne:O≠[]:=by intro z;rw [z] at c;exact absurd c (by show ¬(0:Int)<0;decide)
  obtain ⟨J,d,rfl⟩:=Rm O hne
  have hd:=U d (by simp)
  obtain ⟨m1,m2⟩:=M.val_mod (xs:=J) hd
  have:=Int.ediv_lt_self_of_pos_of_ne_one c (show b≠1 by omega)
  have:=M.j7 (show 0<=b by omega) (xs:=J) (λx Z=>U x (yM _ Z))
  simp only [Hh]
  refine ⟨⟨by omega,by omega⟩,?_⟩
  simp only [Hh]
  refine ⟨.inr ⟨by omega,by omega⟩,?_⟩
  simp only [Hh]
  refine ⟨?_,show (M.val b (J++[d]) / b).toNat<(M.val b (J++[d])).toNat by omega⟩
  rw [hI]
  refine ⟨J,d::vs,some (.int d),by rw [e];simp,?_⟩
  have ev:(f * b ^ vs.length+M.val b vs.reverse) * b+d=f * b ^ (vs.length+1)+M.val b (vs.reverse++[d]):=by rw [M.jj,zJ,Int.add_mul,xH,<-Int.add_assoc]
  rw [m1,m2,yr,zH,<-ev]
  rfl
 ·have hz:O=[]:=by
   match O,e,U,c with
   | [],_,_,_=>rfl
   | x::r,e,U,c=>
    exfalso
    have Z:=U x zo
    have x0:x≠0:=by
     rcases th with z|z
     ·rw [e] at z;simp at z
     ·rw [e] at z;simpa using z
    rw [M.fB] at c
    have h1:=M.j7 (show 0<=b by omega) (xs:=r) (λy hy=>U y (zp _ hy))
    have p:=M.aC (show 0<b by omega) r.length
    have:=zB (show 1<=x by omega) (show 0<=b ^ r.length by omega)
    omega
  rw [hz,xy] at e
  rw [e] at tv
  have:f * b ^ vs.length+M.val b vs.reverse=mZ b f L:=by rw [tv];omega
  simp only [Hh]
  rw [<-this] at q
  exact q
def lnz (b n:Int):Nat:=if n=0 then 1 else M.ln b n
def Ey (b n:Int):Int:=if n=0 then 0 else n / b ^ (M.ln b n / 2)
def YH (b n:Int):Int:=if n=0 then 0 else M.gw b (n / b ^ (M.ln b n / 2)) (M.ln b n)
theorem ln0 {b:Int} (n:2<=b):M.ln b 0=1:=by unfold M.ln;rw [M.qR n];rfl
def ae1:eZ:=λas R=>∃n b:Int,as=[.d (.int n),.d (.int b)]/\0<=n/\n<M.sZ/\2<=b/\b<=36/\R (.rd (.tup [.int (M.ln b n:Int),.int (Ey b n),.int (YH b n)])) as
theorem UJ (T:Zs K mg cs):Ok P w base 4 T.oK ae1:=by
 have G_T:=abx P w base T
 have Y:=O9 P w base T
 have Z:=Pa P w base T
 refine T.oK.F.gC OJ (λas R h=>?_) (λcdv A outer s H E C as R J I h=>?_)
 ·obtain ⟨_,_,rfl,_⟩:=h;rfl
 have hu:=I.units
 obtain ⟨n,b,rfl,B,n1,z,O,q⟩:=h
 have l1:=M.Bu z B n1
 have l0:=M.eF z B
 have el:(List.map D.int (M.fg b n)).length=M.ln b n:=by rw [zd];rfl
 have hp:b ^ (M.ln b n / 2)<2 ^ 4000:=by
  by_cases q:M.ln b n=1
  ·rw [q]
   have:(1:Int)<2 ^ 4000:=by decide
   simpa using this
  ·exact M.pw_big z B n1 (k:=M.ln b n / 2) (by omega)
 refine ⟨_,(bh (aU (i:=2) OJ.nd rfl lc (fc J rfl T.fH (a1 (ak (aj J T.fU Y I.m (a2 (qv 0) (qv 1)))))))
    (bh (aU (i:=3) OJ.nd rfl lc (ak (aj J T.jD G_T I.m (a3 (qv 0) (qv 2) (qv 1)))))
    (sr (eO (a3 (qv 2) (qv 3) (ak (aj J T.cW Z I.m (aN (qv 3) (aN (qv 2) (a1 (qv 1))))))))))),?_⟩
 simp only [Hh]
 refine ⟨B,n1,z,O,?_⟩
 simp only [Hh]
 rw [el]
 refine ⟨z,O,by omega,hp,?_⟩
 simp only [Hh]
 by_cases U:n=0
 ·subst U
  have e2:(0:Int) / b ^ (M.ln b 0 / 2)=0:=by simp
  rw [e2]
  rw [ln0 z] at *
  refine ⟨z,O,by omega,.inl ⟨rfl,rfl⟩,?_⟩
  simp only [Hh]
  exact q
 ·have F:=M.bO z (by omega:1<=n)
  refine ⟨z,O,by omega,.inr F,?_⟩
  simp only [Hh]
  have e3:mZ b (n / b ^ (M.ln b n / 2)) (M.ln b n)=YH b n:=by
   unfold mZ YH
   rw [zi (by have:=F.pos;omega),zi U]
  have e4:n / b ^ (M.ln b n / 2)=Ey b n:=by unfold Ey;rw [zi U]
  rw [e3,e4]
  exact q
def S_u:eZ:=λas R=>∃n b:Int,as=[.d (.int n),.d (.int b)]/\0<=n/\n<M.sZ/\2<=b/\b<=36/\∀m,M.AM b n m->R (.rd (.int m)) as
theorem S5 {b:Int} (n:2<=b):M.AM b 0 0:=⟨M.fD (by decide) (by omega),by decide,λk _ h=>h⟩
theorem S6 {b:Int} (n:2<=b):M.AL b 0 0:=⟨M.fD (by decide) (by omega),by decide,λk _ h=>h⟩
theorem Pb (T:Zs K mg cs):Ok P w base 5 T.fV S_u:=by
 have xN:=jN P w base T
 have J:=UJ P w base T
 have G_h:=Pa P w base T
 have YJ:=SQ P w base T
 have G_N:=SN P w base T
 refine T.fV.F.gC Su (λas R h=>?_) (λcdv A outer s H E C as R B D h=>?_)
 ·obtain ⟨_,_,rfl,_⟩:=h;rfl
 have hu:=D.units
 obtain ⟨n,b,rfl,U,n1,z,I,q⟩:=h
 have l1:=M.Bu z U n1
 have l0:=M.eF z U
 refine ⟨_,(bh (nO (ak (aj B T.aG xN D.m (a1 (qv 1)))))
    (bh (fj (ak (aj B T.oK J D.m (a2 (qv 0) (qv 1)))) (jc (n:=3) B rfl (aV (aH (i:=2) Su.nd rfl lc) (aV (aH (i:=3) Su.nd rfl lc) (aV (aH (i:=4) Su.nd rfl lc) dF)))))
    (bh (bx (adE (qv 4) (qv 0)) (sr (qv 4)) aP)
    (bh (bx (dh B hu (qv 3) (ak (aj B T.di YJ D.m (a2 (qv 2) (qv 1))))) (sr (bV (ak (aj B T.jC G_N D.m (a2 (qv 1) (bV (qv 2) qi)))) qi)) aP)
    (aL (bI (aj B T.cW G_h D.m (a3 (bV (qv 3) qi) (qv 2) (qv 1))))))))),?_⟩
 simp only [Hh]
 refine ⟨z,I,?_⟩
 simp only [Hh]
 refine ⟨U,n1,z,I,?_⟩
 simp only [Hh]
 by_cases Y:n=0
 ·subst Y
  refine pK (λ_=>?_) (λc=>absurd (yx 0) c)
  simp only [Hh]
  exact q _ (S5 z)
 have O:1<=n:=by omega
 have F:=M.bO z O
 have e1:YH b n=M.gw b (n / b ^ (M.ln b n / 2)) (M.ln b n):=by unfold YH;rw [zi Y]
 have e2:Ey b n=n / b ^ (M.ln b n / 2):=by unfold Ey;rw [zi Y]
 rw [e1,e2]
 refine pK (λc=>?_) (λc=>?_)
 ·simp only [Hh]
  exact q _ (M.NT z O c)
 simp only [Hh]
 refine ⟨by omega,I,by omega,?_⟩
 simp only [Hh]
 refine X_ (λZ=>?_) (λZ=>?_)
 ·simp only [Hh]
  refine ⟨by omega,I,by omega,by omega,?_⟩
  simp only [Hh]
  rw [show ((M.ln b n:Int) - 1).toNat=M.ln b n - 1 by omega]
  exact q _ (M.NZ z O (by omega) Z)
 ·have F1:M.Fr b (n / b ^ (M.ln b n / 2) - 1) (M.ln b n):=⟨z,F.L1,by have:=F.lo;omega,by have:=F.hi;omega⟩
  simp only [Hh]
  refine ⟨z,I,by omega,.inr F1,?_⟩
  have e3:mZ b (n / b ^ (M.ln b n / 2) - 1) (M.ln b n)=M.gw b (n / b ^ (M.ln b n / 2) - 1) (M.ln b n):=by
   unfold mZ;rw [zi (by have:=F1.pos;omega)]
  rw [e3]
  exact q _ (M.R5 z O (by omega) Z)
def S_I:eZ:=λas R=>∃n b:Int,as=[.d (.int n),.d (.int b)]/\0<=n/\n<M.sZ/\2<=b/\b<=36/\∀m,M.AL b n m->R (.rd (.int m)) as
theorem abz (T:Zs K mg cs):Ok P w base 5 T.jE S_I:=by
 have Z:=jN P w base T
 have B:=UJ P w base T
 have Y:=Pa P w base T
 refine T.jE.F.gC Sx (λas R h=>?_) (λcdv A outer s H E C as R I D h=>?_)
 ·obtain ⟨_,_,rfl,_⟩:=h;rfl
 have hu:=D.units
 obtain ⟨n,b,rfl,J,n1,z,U,q⟩:=h
 have l1:=M.Bu z J n1
 have l0:=M.eF z J
 refine ⟨_,(bh (nO (ak (aj I T.aG Z D.m (a1 (qv 1)))))
    (bh (fj (ak (aj I T.oK B D.m (a2 (qv 0) (qv 1)))) (jc (n:=3) I rfl (aV (aH (i:=2) Sx.nd rfl lc) (aV (aH (i:=3) Sx.nd rfl lc) (aV (aH (i:=4) Sx.nd rfl lc) dF)))))
    (bh (bx (Dr (qv 4) (qv 0)) (sr (qv 4)) aP)
    (aL (bI (aj I T.cW Y D.m (a3 (cT (qv 3) qi) (qv 2) (qv 1)))))))),?_⟩
 simp only [Hh]
 refine ⟨z,U,?_⟩
 simp only [Hh]
 refine ⟨J,n1,z,U,?_⟩
 simp only [Hh]
 by_cases O:n=0
 ·subst O
  refine pK (λ_=>?_) (λc=>absurd (yx 0) c)
  simp only [Hh]
  exact q _ (S6 z)
 have hn:1<=n:=by omega
 have e1:YH b n=M.gw b (n / b ^ (M.ln b n / 2)) (M.ln b n):=by unfold YH;rw [zi O]
 have e2:Ey b n=n / b ^ (M.ln b n / 2):=by unfold Ey;rw [zi O]
 rw [e1,e2]
 refine pK (λc=>?_) (λc=>?_)
 ·simp only [Hh]
  exact q _ (M.N5 z hn c)
 obtain ⟨F1,h1⟩:=M.R6 z hn (by omega)
 simp only [Hh]
 refine ⟨z,U,by omega,.inr F1,?_⟩
 have e3:mZ b (n / b ^ (M.ln b n / 2)+1) (M.ln b n)=M.gw b (n / b ^ (M.ln b n / 2)+1) (M.ln b n):=by
  unfold mZ;rw [zi (by have:=F1.pos;omega)]
 rw [e3]
 exact q _ h1
def S_n:eZ:=λas R=>∃(L:Nat) (b:Int),as=[.d (.int (L:Int)),.d (.int b)]/\0<=b/\b<=36/\L<=90000/\R (.rd (.int (M.uP b L))) as
theorem abA (T:Zs K mg cs):Ok P w base 2 T.cQ S_n:=by
 have n:=SN P w base T
 refine T.cQ.F.gC aeI (λas R h=>?_) (λJ A outer s H E C as R B z h=>?_)
 ·obtain ⟨_,_,rfl,_⟩:=h;rfl
 have U:=z.units
 obtain ⟨L,b,rfl,I,D,O,q⟩:=h
 refine ⟨_,(sr (bV (cT (bV (ak (aj B T.jC n z.m (a2 (qv 1) (iM (cT (qv 0) qi) qi)))) qi) (ak (aj B T.jC n z.m (a2 (qv 1) (iM (qv 0) qi))))) qi)),?_⟩
 simp only [Hh]
 refine ⟨I,D,by omega,by omega,?_⟩
 simp only [Hh]
 refine ⟨I,D,by omega,by omega,?_⟩
 simp only [Hh]
 rw [show (((L:Int)+1) / 2).toNat=M.hf L by unfold M.hf;omega,show ((L:Int) / 2).toNat=L / 2 by omega]
 exact q
def S_q:eZ:=λas R=>∃n b:Int,as=[.d (.int n),.d (.int b)]/\M.Mp b n/\n<M.sZ/\2<=b/\b<=36/\R (.rd (.int (M.pl b n))) as
theorem YK (T:Zs K mg cs):Ok P w base 5 T.dJ S_q:=by
 have xN:=jN P w base T
 have G_g:=O_ P w base T
 have Z:=O9 P w base T
 have G_T:=abx P w base T
 have YJ:=SQ P w base T
 have G_n:=abA P w base T
 refine T.dJ.F.gC Sy (λas R h=>?_) (λcdv A outer s H E C as R z B h=>?_)
 ·obtain ⟨_,_,rfl,_⟩:=h;rfl
 have hu:=B.units
 obtain ⟨n,b,rfl,mp,n1,I,J,q⟩:=h
 have O:=mp.1
 have l1:=M.Bu I O n1
 have l0:=M.eF I O
 have el:(List.map D.int (M.fg b n)).length=M.ln b n:=by rw [zd];rfl
 refine ⟨_,(bh (nO (ak (aj z T.aG xN B.m (a1 (qv 1)))))
    (bh (bx (iC (gP (ak (aj z T.cJ G_g B.m (a2 (qv 0) (qv 1)))))) (aL pD) aP)
    (bh (bx (dh z hu (qv 0) qi) (sr qi) aP)
    (bh (aU (i:=2) Sy.nd rfl lc (fc z rfl T.fH (a1 (ak (aj z T.fU Z B.m (a2 (qv 0) (qv 1)))))))
    (bh (aU (i:=3) Sy.nd rfl lc (bV (ak (aj z T.jD G_T B.m (a3 (qv 0) (qv 2) (qv 1)))) (ak (aj z T.di YJ B.m (a2 (qv 2) (qv 1))))))
    (sr (cT (cT (ak (aj z T.cQ G_n B.m (a2 (bV (qv 2) qi) (qv 1)))) (qv 3)) qi))))))),?_⟩
 simp only [Hh]
 refine ⟨I,J,?_⟩
 simp only [Hh]
 refine ⟨O,n1,I,J,?_⟩
 simp only [Hh]
 rw [mp.2]
 simp only [Hh]
 refine X_ (λU=>?_) (λU=>?_)
 ·simp only [Hh]
  unfold M.pl at q
  rw [zm U] at q
  exact q
 have Y:b ^ (M.ln b n / 2)<2 ^ 4000:=by
  by_cases q:M.ln b n=1
  ·rw [q]
   have:(1:Int)<2 ^ 4000:=by decide
   simpa using this
  ·exact M.pw_big I O n1 (by omega)
 simp only [Hh]
 refine ⟨O,n1,I,J,?_⟩
 simp only [Hh]
 rw [el]
 refine ⟨I,J,by omega,Y,?_⟩
 simp only [Hh]
 refine ⟨by omega,J,by omega,?_⟩
 simp only [Hh]
 refine ⟨M.ln b n - 1,b,?_,by omega,J,by omega,?_⟩
 ·rw [show ((M.ln b n - 1:Nat):Int)=(M.ln b n:Int) - 1 by omega]
 simp only [Hh]
 unfold M.pl at q
 rw [zi U] at q
 exact q
def S_Y:eZ:=λas R=>∃n b:Int,as=[.d (.int n),.d (.int b)]/\0<=n/\n<M.sZ/\2<=b/\b<=36/\R (.rd (.int (M.cnt b n))) as
theorem abB (T:Zs K mg cs):Ok P w base 6 T.lE S_Y:=by
 have Y:=jN P w base T
 have U:=YK P w base T
 have O:=Pb P w base T
 refine T.lE.F.gC aeJ (λas R h=>?_) (λcdv A outer s H E C as R I z h=>?_)
 ·obtain ⟨_,_,rfl,_⟩:=h;rfl
 have hu:=z.units
 obtain ⟨n,b,rfl,Z,n1,B,J,q⟩:=h
 refine ⟨_,(bh (nO (ak (aj I T.aG Y z.m (a1 (qv 1)))))
    (aL (bI (aj I T.dJ U z.m (a2 (ak (aj I T.fV O z.m (a2 (qv 0) (qv 1)))) (qv 1)))))),?_⟩
 simp only [Hh]
 refine ⟨B,J,?_⟩
 simp only [Hh]
 refine ⟨Z,n1,B,J,λm D=>?_⟩
 simp only [Hh]
 refine ⟨D.mp,by have:=D.le;omega,B,J,?_⟩
 rw [M.mO B Z D]
 exact q
theorem S7 {b:Int} (n:2<=b) {L:Nat} (hL:200<=L):(10:Int) ^ 25<M.uP b L:=by
 have h1:=M.jy n 100
 have h2:=M.bD (b:=b) (by omega) (show 100<=M.hf L by unfold M.hf;omega)
 have z:=M.aC (show 0<b by omega) (L / 2)
 have:(10:Int) ^ 25+1<2 ^ 100:=by decide
 unfold M.uP
 omega
theorem Cd {b c:Int} (h0:0<=b) (h:b<=c):∀k:Nat,b ^ k<=c ^ k
 | 0=>by simp
 | k+1=>by
  rw [zJ,zJ]
  have n:=Cd h0 h k
  have:0<=b ^ k:=Int.pow_nonneg h0
  exact yK n h h0 (by omega)
def S_v:eZ:=λas R=>∃n b:Int,as=[.d (.int n),.d (.int b)]/\0<=n/\n<=10 ^ 25/\2<=b/\b<=36/\∀m,M.Mp b m->M.pl b m=n->m<M.Mid->R (.rd (.int m)) as
theorem abC (T:Zs K mg cs):Ok P w base 3 T.gf S_v:=by
 have xN:=jN P w base T
 have G_h:=Pa P w base T
 have Z:=abA P w base T
 have YJ:=SQ P w base T
 refine T.gf.F.gC SJ (λas R h=>?_) (λcdv A outer s H E C as R J B h=>?_)
 ·obtain ⟨_,_,rfl,_⟩:=h;rfl
 have hu:=B.units
 obtain ⟨n,b,rfl,n0,n1,Y,O,q⟩:=h
 have B0:(0:Int)<M.Mid:=M.Yk (by decide)
 refine ⟨_,(bh (nO (ak (aj J T.aG xN B.m (a1 (qv 1)))))
    (bh (bx (dh J hu (qv 0) qi) (sr qi) aP)
    (bh (aU (i:=2) SJ.nd rfl lc qi)
    (bh (Ih zL (rT (ak (aj J T.cQ Z B.m (a2 (qv 2) (qv 1)))) (qv 0)) (aL (aai (i:=2) SJ.nd rfl lc qi)))
    (bh (aU (i:=3) SJ.nd rfl lc (bV (bV (qv 0) (ak (aj J T.cQ Z B.m (a2 (bV (qv 2) qi) (qv 1))))) qi))
    (aL (bI (aj J T.cW G_h B.m (a3 (cT (ak (aj J T.di YJ B.m (a2 (qv 2) (qv 1)))) (qv 3)) (qv 2) (qv 1)))))))))),?_⟩
 simp only [Hh]
 refine ⟨Y,O,?_⟩
 simp only [Hh]
 refine X_ (λhz=>?_) (λhz=>?_)
 ·simp only [Hh]
  subst hz
  exact q 0 (M.fD (by decide) (by omega)) (by unfold M.pl;rw [zm rfl]) B0
 simp only [Hh]
 dsimp only
 refine cD (λp=>∃L:Nat,1<=L/\L<=200/\M.uP b (L - 1)<n/\n<=M.uP b L/\p=[some (.d (.int n)),some (.d (.int b)),some (.d (.int (L:Int))),none]) (λk hk=>?_) ?_
 ·obtain ⟨I,hI⟩:∃I:aQ->Prop,I=(λp=>∃L:Nat,1<=L/\L<=200/\M.uP b (L - 1)<n/\p=[some (.d (.int n)),some (.d (.int b)),some (.d (.int (L:Int))),none]):=⟨_,rfl⟩
  refine kY I (λp=>match p[2]? with|some (some (Sl.d (D.int r)))=>(200 - r).toNat|_=>0) (by rw [hI];exact ⟨1,by decide,by decide,by simp [M.uP,M.hf];omega,rfl⟩) ?_
  intro p hp
  rw [hI] at hp
  obtain ⟨L,L1,L2,U,rfl⟩:=hp
  simp only [Hh]
  refine ⟨by omega,O,by omega,?_⟩
  simp only [Hh]
  refine pK (λc=>?_) (λc=>?_)
  ·have h3:L≠200:=λz=>by
    have:=S7 Y (L:=L) (by omega)
    omega
   simp only [Hh]
   refine ⟨?_,show (200 - ((L:Int)+1)).toNat<(200 - (L:Int)).toNat by omega⟩
   rw [hI]
   exact ⟨L+1,by omega,by omega,by rw [y9];exact c,rfl⟩
  ·exact hk _ ⟨L,L1,L2,U,by omega,rfl⟩
 rintro p ⟨L,L1,L2,U,hle,rfl⟩
 have ms:=M.tG (b:=b) L1
 have F:M.Fr b (b ^ (M.hf L - 1)+(n - M.uP b (L - 1) - 1)) L:=⟨Y,L1,by omega,by omega⟩
 have hB:M.gw b (b ^ (M.hf L - 1)+(n - M.uP b (L - 1) - 1)) L<M.Mid:=by
  have h1:=M.iH Y F.wj
  rw [F.ln] at h1
  have h2:=Cd (show 0<=b by omega) O L
  have h3:=M.bD (b:=36) (by decide) L2
  have h4:(36:Int) ^ 200<M.Mid:=by unfold M.Mid;decide
  omega
 simp only [Hh]
 refine ⟨L - 1,b,?_,by omega,O,by omega,?_⟩
 ·rw [show ((L - 1:Nat):Int)=(L:Int) - 1 by omega]
 simp only [Hh]
 refine ⟨by omega,O,by omega,?_⟩
 simp only [Hh]
 refine ⟨Y,O,by omega,.inr F,?_⟩
 have e3:mZ b (b ^ (M.hf L - 1)+(n - M.uP b (L - 1) - 1)) L=M.gw b (b ^ (M.hf L - 1)+(n - M.uP b (L - 1) - 1)) L:=by
  unfold mZ;rw [zi (by have:=F.pos;omega)]
 rw [e3]
 exact q _ F.mp (by rw [F.pl];omega) hB
def Zi:eZ:=λas R=>∃n b:Int,as=[.d (.int n),.d (.int b)]/\0<=n/\n<=10 ^ 6/\2<=b/\b<=36/\R (.ro ((M.bA b n).map D.int)) as
theorem Pg (T:Zs K mg cs):Ok P w base 4 T.cL Zi:=by
 have YJ:=SQ P w base T
 have G_h:=Pa P w base T
 have G_s:=O9 P w base T
 refine T.cL.F.gC Jc (λas R h=>?_) (λcdv A outer s H E C as R hK hr h=>?_)
 ·obtain ⟨_,_,rfl,_⟩:=h;rfl
 have hu:=hr.units
 obtain ⟨n,b,rfl,n0,n1,B,b1,q⟩:=h
 have nB:n<M.sZ:=M.v_ (yw n1 (by decide))
 have l0:=M.eF B n0
 have l1:=M.Bu B n0 nB
 have hl:(M.fg b n).length=M.ln b n:=rfl
 have nl:=M.iH B n0
 have ae4:∀m:Int,0<=m->m<=n->(M.bA b m).length<80000:=λm O m1=>by
  have h1:=M.ou b m
  have h2:=M.wu B b1 O (by omega)
  omega
 have bL:b ^ M.ln b n<=36 * 10 ^ 6+36:=by
  by_cases hz:n=0
  ·have e:M.ln b n=1:=by rw [hz];unfold M.ln;rw [M.qR B];rfl
   rw [e,M.tD]
   omega
  ·have g:=M.gQ B (show 1<=n by omega)
   obtain ⟨j,hj⟩:∃j,M.ln b n=j+1:=⟨M.ln b n - 1,by omega⟩
   rw [hj] at g ⊢
   rw [y9] at g
   rw [zJ]
   have h1:b ^ j * b<=n * b:=zB g (by omega)
   have h2:n * b<=10 ^ 6 * 36:=yK n1 b1 (by omega) (by decide)
   omega
 refine ⟨_,(bh (gG (i:=2) Jc.nd rfl lc (bG dY))
    (bh (nR zL rfl (nQ rfl T.fG (a2 qi (cT (fc hK rfl T.fH (a1 (ak (aj hK T.fU G_s hr.m (aN (qv 0) (a1 (qv 1))))))) qi))) (aH (i:=3) Jc.nd rfl lc) (bh (aU (i:=4) Jc.nd rfl lc (ak (aj hK T.di YJ hr.m (a2 (qv 3) (qv 1)))))
    (aL (nR zL rfl (nQ rfl T.fG (a2 (qv 4) (jV (qv 4) (qv 1)))) (aH (i:=5) Jc.nd rfl lc) (bh (aU (i:=6) Jc.nd rfl lc (ak (aj hK T.cW G_h hr.m (a3 (qv 5) (qv 3) (qv 1)))))
    (bh (bx (HX (qv 6) (qv 0)) (aL (mj (i:=2) (pv 2))) aP)
    (aL (nO (gn hK (pv 2) (a1 (qv 6)))))))))))
    (aL (mj (i:=2) (pv 2))))),?_⟩
 refine cV ?_
 simp only [R]
 obtain ⟨I,hI⟩:∃I:Nat->aQ->Prop,I=(λi p=>∃w3 w4 Z Y:Option D,b ^ i - 1<=n/\p=[some (.d (.int n)),some (.d (.int b)),some (.own ((M.bA b (b ^ i - 1)).map D.int)),Option.map Sl.d w3,Option.map Sl.d w4,Option.map Sl.d Z,Option.map Sl.d Y]):=⟨_,rfl⟩
 refine cV (T8 ?_)
 simp only [R,S_s,zd,hl]
 have eL:((M.ln b n:Int)+1 - 1).toNat=M.ln b n:=by omega
 rw [eL]
 refine ⟨n0,nB,B,b1,by omega,by omega,I,by rw [hI];exact ⟨none,none,none,none,by rw [xC];omega,by rw [xC];rfl⟩,?_,?_⟩
 ·intro i p hi U
  rw [hI] at U
  obtain ⟨w3,w4,Z,Y,hle,rfl⟩:=U
  have ei:(1:Int)+i=((i+1:Nat):Int):=by omega
  rw [ei]
  have i0:1<=i+1:=by omega
  have h0:=M.tE i0
  have pw:=M.aC (show 0<b by omega) (M.hf (i+1) - 1)
  obtain ⟨cn,hcn⟩:∃cn:Nat,(cn:Int)=b ^ M.hf (i+1) - b ^ (M.hf (i+1) - 1):=⟨(b ^ M.hf (i+1) - b ^ (M.hf (i+1) - 1)).toNat,by
   have:=M.bD (b:=b) (by omega) (show M.hf (i+1) - 1<=M.hf (i+1) by omega)
   omega⟩
  have eb:b ^ (M.hf (i+1) - 1) * b=b ^ M.hf (i+1):=by rw [<-zJ];congr 1;omega
  simp only [R]
  refine cV ?_
  simp only [R,S_j]
  refine ⟨by omega,b1,by omega,?_⟩
  refine T8 ?_
  simp only [R,eb]
  have bg1:=M.bD (b:=b) (by omega) (show M.hf (i+1)<=M.ln b n by unfold M.hf;omega)
  have bg2:=M.bD (b:=b) (by omega) (show M.hf (i+1) - 1<=M.hf (i+1) by omega)
  have ec:(b ^ M.hf (i+1) - b ^ (M.hf (i+1) - 1)).toNat=cn:=by omega
  have c1:1<=cn:=by
   have:=yp B (show 0<=b ^ (M.hf (i+1) - 1) by omega)
   omega
  rw [ec]
  obtain ⟨J,hJ⟩:∃J:Nat->aQ->Prop,J=(λ(j:Nat) p=>∃(O:Int) (Z Y:Option D),(j=0->O=b ^ i - 1)/\(1<=j->O=M.gw b (b ^ (M.hf (i+1) - 1)+(j:Int) - 1) (i+1))/\O<=n/\M.Mp b O/\p=[some (.d (.int n)),some (.d (.int b)),some (.own ((M.bA b O).map D.int)),some (.d (.int ((i+1:Nat):Int))),some (.d (.int (b ^ (M.hf (i+1) - 1)))),Option.map Sl.d Z,Option.map Sl.d Y]):=⟨_,rfl⟩
  refine ⟨.inr ⟨by omega,by omega⟩,by omega,by omega,by omega,by omega,J,by rw [hJ];exact ⟨b ^ i - 1,Z,Y,λ_=>rfl,λz=>absurd z (by decide),hle,M.j8 B i,rfl⟩,?_,?_⟩
  ·intro j p hj U
   rw [hJ] at U
   obtain ⟨O,Z,Y,e1,e2,hm,mp,rfl⟩:=U
   have F:M.Fr b (b ^ (M.hf (i+1) - 1)+(j:Int)) (i+1):=⟨B,i0,by omega,by omega⟩
   have e3:mZ b (b ^ (M.hf (i+1) - 1)+(j:Int)) (i+1)=M.gw b (b ^ (M.hf (i+1) - 1)+(j:Int)) (i+1):=by
    unfold mZ;rw [zi (by have:=F.pos;omega)]
   have nx:M.Nx b O (M.gw b (b ^ (M.hf (i+1) - 1)+(j:Int)) (i+1)):=by
    by_cases z:j=0
    ·rw [e1 z,z]
     have:=M.Ob B i0
     rw [y9] at this
     rw [show b ^ (M.hf (i+1) - 1)+((0:Nat):Int)=b ^ (M.hf (i+1) - 1) by omega]
     exact this
    ·rw [e2 (by omega)]
     have F0:M.Fr b (b ^ (M.hf (i+1) - 1)+(j:Int) - 1) (i+1):=⟨B,i0,by omega,by omega⟩
     have F1:M.Fr b (b ^ (M.hf (i+1) - 1)+(j:Int) - 1+1) (i+1):=by rw [Int.sub_add_cancel];exact F
     have:=M.aa3 F0 F1
     rw [Int.sub_add_cancel] at this
     exact this
   have st:=M.Oa mp nx
   have mp2:=F.mp
   have ln6:=ae4 O mp.1 hm
   generalize hG:M.gw b (b ^ (M.hf (i+1) - 1)+(j:Int)) (i+1)=m at *
   simp only [Hh]
   refine ⟨B,b1,by omega,.inr F,?_⟩
   rw [e3]
   simp only [Hh]
   refine pK (λc=>?_) (λc=>?_)
   ·simp only [Hh]
    rw [M.Gx mp nx hm c] at q
    exact q
   ·simp only [Hh]
    refine ⟨by rw [zd];omega,?_⟩
    simp only [Hh]
    show J (j+1) _
    rw [hJ]
    refine ⟨m,some (.int (b ^ (M.hf (i+1) - 1)+(j:Int))),some (.int m),λz=>absurd z (by omega),λ_=>?_,by omega,mp2,?_⟩
    ·rw [<-hG];congr 1;push_cast;omega
    ·rw [st,yf];rfl
  ·intro p U
   rw [hJ] at U
   obtain ⟨O,Z,Y,e1,e2,hm,mp,rfl⟩:=U
   have e3:O=b ^ (i+1) - 1:=by
    rw [e2 c1,show b ^ (M.hf (i+1) - 1)+(cn:Int) - 1=b ^ M.hf (i+1) - 1 by omega]
    exact (M.uO B i0).2
   rw [hI]
   subst e3
   exact ⟨some (.int ((i+1:Nat):Int)),some (.int (b ^ (M.hf (i+1) - 1))),Z,Y,hm,rfl⟩
 ·intro p U
  rw [hI] at U
  obtain ⟨w3,w4,Z,Y,hle,rfl⟩:=U
  have e:b ^ M.ln b n - 1=n:=by omega
  rw [e]
  simp only [Hh]
  exact q
def S_Z:eZ:=λas R=>∃B z n k:Int,as=[.d (.int B),.d (.int z),.d (.int n),.d (.int k)]/\0<=B/\B<=2000/\0<=z/\z<=2000/\0<=n/\n<=2000/\0<=k/\k<=2000 /\
 R (.ro ((pI (B+z - 1) ((if n - k+z<B * z then n - k+z else B * z)+1 - (B+z - 1)).toNat).map D.int)) as
theorem abD (T:Zs K mg cs):Ok P w base 1 T.oO S_Z:=by
 refine T.oO.F.gC aeS (λas R h=>?_) (λU A outer s H E C as R hK O h=>?_)
 ·obtain ⟨_,_,_,_,rfl,_⟩:=h;rfl
 have hu:=O.units
 obtain ⟨B,size,n,k,rfl,p0,p1,I,J,n0,n1,k0,k1,q⟩:=h
 have m0:0<=B * size:=Int.mul_nonneg p0 I
 have m1:B * size<=2000 * 2000:=yK p1 J I (by decide)
 refine ⟨_,(aL (bI (D_ rfl rfl T.Yt rfl T.fG (a2 (bV (cT (qv 0) (qv 1)) qi) (cT (Dy rfl rfl T.Ox (a2 (jV (qv 0) (qv 1)) (cT (bV (qv 2) (qv 3)) (qv 1)))) qi))))),?_⟩
 simp only [R]
 obtain ⟨z,D⟩:∃z,z=(if n - k+size<B * size then n - k+size else B * size):=⟨_,rfl⟩
 have Z:z<=4000:=by rw [D];split<;>omega
 have Y:-2000<=z:=by rw [D];split<;>omega
 rw [<-D] at q ⊢
 refine ⟨.inl ⟨by omega,by omega⟩,by omega,by omega,by omega,by omega,by omega,q⟩
def abE:Cu:=λW ds R=>∃(n:Int) (x:Addr) (N B:Nat) (ps:List Int) (ms:List (List Int)),ds=[.int n,.atom (.ref x),.int N,.int B]/\Jl W x ms/\M.Tab ps N B ms/\0<n/\n<=2000/\N<=2000/\B<=2000/\(∀y∈ps,y<=n) /\
 ∀D z,Jl D x z->M.Tab (n::ps) N B z->R .non D
theorem Ce {i:Int} {n k:Nat} (h:k<n):((pI i n).map D.int).getD k .non=.int (i+(k:Int)):=by
 rw [zn,zO,Bk i n k h];rfl
theorem tU (r:List Int) (t:Nat) (v:Int):(r.map V.int).set t (.int v)=(r.set t v).map V.int:=by rw [List.map_set]
theorem abF (T:Zs K mg cs):YF P w base 2 T.tR abE:=by
 have G_Z:=abD P w base T
 refine T.tR.F.Uc BX (λW ds R h=>?_) (λcdv A outer s H E C W ds R hK hr h=>?_)
 ·obtain ⟨_,_,_,_,_,_,rfl,_⟩:=h;rfl
 have hu:=hr.units
 obtain ⟨B,x,N,Kk,ps,ms,rfl,⟨bs,U,nx,UL⟩,hT,p0,p1,n1,k1,hps,q⟩:=h
 refine ⟨_,(cU (oh zL rfl (λW ok=>(nQ rfl T.fG (a2 qi (cT (qv 3) qi)))) (λW ok=>(aH (i:=4) BX.nd rfl lc)) (aR (aZ (λW ok=>(aU (i:=5) BX.nd rfl lc (dG ok hK (qv 1) (qv 4) (λ_ _=>rfl)))))
    (aR (aZ (λW ok=>(aU (i:=6) BX.nd rfl lc (dG ok hK (qv 1) (bV (qv 4) qi) (λ_ _=>rfl)))))
    (cU (oh zL rfl (λW ok=>(fM hK (ak (aj hK T.oO G_Z hr.m (aN (qv 0) (a3 (qv 4) (qv 2) (qv 3))))))) (λW ok=>(aH (i:=7) BX.nd rfl lc)) (cU (Mv Vv (λW ok=>(qv 5)) (λW ok=>(qv 7)) (λW ok=>(dG ok hK (qv 6) (bV (qv 7) (qv 0)) (λ_ _=>rfl))))))))))),?_⟩
 obtain ⟨I,hI⟩:∃I:Nat->Hp->aQ->Prop,I=(λ(i:Nat) W p=>∃(ms:List (List Int)) (w4 w5 w6 Z:Option D),W x=some (.lst (bs.map V.ref))/\uK W bs ms/\M.Ek B ps N Kk i ms/\p=[some (.d (.int B)),some (.d (.atom (.ref x))),some (.d (.int N)),some (.d (.int Kk)),Option.map Sl.d w4,Option.map Sl.d w5,Option.map Sl.d w6,Option.map Sl.d Z]):=⟨_,rfl⟩
 refine jx (n:=Kk) (item:=λi=>.int (1+(i:Int))) (p1:=_) (λQ h=>by
  simp only [Q]
  have e:((Kk:Int)+1 - 1).toNat=Kk:=by omega
  rw [e]
  exact ⟨by omega,by omega,h⟩) I (by rw [hI];exact ⟨ms,none,none,none,none,U,UL,hT.start,rfl⟩) ?_ ?_
 ·intro i W p hi Y
  rw [hI] at Y
  obtain ⟨ms,w4,w5,w6,Z,U,Jm,hT,rfl⟩:=Y
  have hb:bs.length=ms.length:=Jm.len
  have hl:=hT.qT.len
  obtain ⟨b1,e1⟩:∃b,bs[i+1]? = some b:=⟨_,zg (by omega)⟩
  obtain ⟨b0,e0⟩:∃b,bs[i]? = some b:=⟨_,zg (by omega)⟩
  have f1:iy (bs.map V.ref) (1+(i:Int))=some (.ref b1):=fu (by omega) (by rw [show (1+(i:Int)).toNat=i+1 by omega];exact e1)
  have f0:iy (bs.map V.ref) (1+(i:Int) - 1)=some (.ref b0):=fu (by omega) (by rw [show (1+(i:Int) - 1).toNat=i by omega];exact e0)
  simp only [Hg]
  refine aF λkk hkk=>?_
  simp only [R,U,f1]
  refine hkk _ _ ?_
  refine aF λkk hkk=>?_
  simp only [R,U,f0]
  refine hkk _ _ ?_
  refine Mz ?_
  simp only [R,S_Z]
  refine ⟨by omega,by omega,by omega,by omega,by omega,by omega,by omega,by omega,?_⟩
  obtain ⟨z,hz⟩:∃z:Int,z=(if (N:Int) - (Kk:Int)+(1+(i:Int))<B * (1+(i:Int)) then (N:Int) - (Kk:Int)+(1+(i:Int)) else B * (1+(i:Int))):=⟨_,rfl⟩
  rw [<-hz]
  have z1:z<=(N:Int) - (Kk:Int)+(1+(i:Int)):=by rw [hz];split<;>omega
  have z2:∀t:Int,t<=(N:Int) - (Kk:Int)+(1+(i:Int))->z<t->B * ((i:Int)+1)<t:=λt h1 h2=>by
   rw [xc (i:Int) 1]
   rw [hz] at h2
   split at h2<;>omega
  obtain ⟨n,hn⟩:∃n,n=(z+1 - (B+(1+(i:Int)) - 1)).toNat:=⟨_,rfl⟩
  rw [<-hn]
  obtain ⟨J,hJ⟩:∃J:Nat->Hp->aQ->Prop,J=(λ(k:Nat) W p=>∃(ms:List (List Int)) (Z:Option D),W x=some (.lst (bs.map V.ref))/\uK W bs ms/\M.wC B ps N Kk i (B+(i:Int)+(k:Int)) ms/\p=[some (.d (.int B)),some (.d (.atom (.ref x))),some (.d (.int N)),some (.d (.int Kk)),some (.d (.int (1+(i:Int)))),some (.d (.atom (.ref b1))),some (.d (.atom (.ref b0))),Option.map Sl.d Z]):=⟨_,rfl⟩
  refine jx (n:=((pI (B+(1+(i:Int)) - 1) n).map D.int).length) (item:=λk=>((pI (B+(1+(i:Int)) - 1) n).map D.int).getD k .non) (p1:=_) (λQ h=>h) J (by rw [hJ];exact ⟨ms,Z,U,Jm,by have:=hT.go p0;simpa using this,rfl⟩) ?_ ?_
  ·intro k W p hk Y
   rw [hJ] at Y
   obtain ⟨ms,Z,U,O,hT,rfl⟩:=Y
   rw [zd,jh] at hk
   rw [Ce hk]
   have ec:B+(1+(i:Int)) - 1+(k:Int)=B+(i:Int)+(k:Int):=by omega
   rw [ec]
   obtain ⟨c,hc⟩:∃c,c=B+(i:Int)+(k:Int):=⟨_,rfl⟩
   rw [<-hc] at hT ⊢
   obtain ⟨g1,g0⟩:=hT.read p0 (by omega) (t0:=c.toNat) (by omega) (by omega) (by omega)
   obtain ⟨r1,s1,y1⟩:=M.gA g1
   obtain ⟨r0,s0,y0⟩:=M.gA g0
   have h1:=O.at_ _ _ _ e1 s1
   have h0:=O.at_ _ _ _ e0 s0
   have x1:(r1.map V.int)[c.toNat]? = some (.int (M.cg true ps (i+1) c)):=by rw [zO,y1];rfl
   have x0:iy (r0.map V.int) (c - B)=some (.int (M.cg true (B::ps) i (c - B))):=ji (by omega) y0
   simp only [R,h1,h0,x1,x0]
   refine ⟨by omega,?_⟩
   rw [hJ,tU]
   have nb:x≠b1:=λe=>nx (by rw [e];exact yE e1)
   refine ⟨_,some (.int c),by rw [az nb];exact U,O.wr e1,?_,rfl⟩
   have:=hT.step p0 (by omega) (t0:=c.toNat) (by omega) (by omega) (by omega) s1 rfl
   have e2:B+(i:Int)+((k+1:Nat):Int)=c+1:=by rw [hc];push_cast;omega
   rw [e2]
   exact this
  ·intro W p Y
   rw [hJ] at Y
   obtain ⟨ms,Z,U,O,hT,rfl⟩:=Y
   rw [zd,jh] at hT
   show I (i+1) _ _
   rw [hI]
   refine ⟨ms,some (.int (1+(i:Int))),some _,some _,Z,U,O,hT.fin p0 hps λt h1 h2=>z2 t (by omega) (by omega),rfl⟩
 ·intro W p Y
  rw [hI] at Y
  obtain ⟨ms,w4,w5,w6,Z,U,Jm,hT,rfl⟩:=Y
  exact q W ms ⟨bs,U,nx,Jm⟩ hT.fin
def S_F:Cu:=λW ds R=>∃(ps:List Int) (N n:Nat),ds=[.lst (ps.map D.int),.int N,.int n]/\N<=2000/\n<=2000/\(∀y∈ps,(0:Int)<y/\y<=2000)/\ps.Pairwise (·<·) /\
 ∀z x ms,Jl z x ms->M.Tab ps.reverse N n ms->R (.atom (.ref x)) z
theorem Ph {ps:List Int} {i:Nat} (h:i<ps.length):(ps.take (i+1)).reverse=ps.getD i 0::(ps.take i).reverse:=by
 rw [List.take_succ,zg h,yI,zn,zg h];rfl
theorem S8 {ps:List Int} (z:ps.Pairwise (·<·)) {i:Nat} (h:i<ps.length):∀y∈(ps.take i).reverse,y<=ps.getD i 0:=λy n=>by
 rw [yi] at n
 obtain ⟨j,B,e⟩:=xv n
 rw [yD] at B
 rw [List.getElem_take] at e
 have:=List.pairwise_iff_getElem.mp z j i (by omega) h (by omega)
 rw [zn,zg h]
 show y<=ps[i]
 omega
theorem Jd (N n:Nat):(List.replicate (n+1) (List.replicate (N+1) (0:Int))).set 0 ((List.replicate (N+1) (0:Int)).set 0 1)=([1]++List.replicate N 0)::List.replicate n (List.replicate (N+1) 0):=by
 rw [zT,List.set_cons_zero,zT,List.set_cons_zero];rfl
theorem YL (T:Zs K mg cs):YF P w base 3 T.jk S_F:=by
 have ae7:=abF P w base T
 refine T.jk.F.Uc Yw (λW ds R h=>?_) (λcdv A outer s H E C W ds R hK hr h=>?_)
 ·obtain ⟨_,_,_,rfl,_⟩:=h;rfl
 have hu:=hr.units
 obtain ⟨ps,N,O,rfl,n1,k1,B,hs,q⟩:=h
 refine ⟨_,(aR (Mx (i:=3) Yw.nd rfl lc (N:=["size","parts","number","many","rows","part"]) (k:=1) (a_.of (show g_ (aa s_F) ["parts","number","many","rows","part"] _ ["size","parts","number","many","rows","part"] 1 from ⟨by rfl,by decide,by decide,by rfl,by decide,by decide,by decide,by decide⟩)) rfl (λW ok=>(nP rfl T.fG (a1 (cT (qv 2) qi)))) (λW ok Z s H fp=>(d8 (i:=0) (by decide) (show List.Nodup (["size","parts","number","many","rows","part"]:List Str) by decide) rfl (Or.inl rfl) (Or.inr rfl))) (λW ok Z s H fp=>jw) (λW ok Z s H fp=>(aah (ak (bG (a1 qi))) (cT (qv 2) qi))))
    (aR (XJ (λW ok=>qi) (λW ok=>(dG ok hK (qv 3) qi (λ_ _=>rfl))) (λW ok=>qi))
    (aR (oh zL rfl (λW ok=>(fM hK (qv 0))) (λW ok=>(aH (i:=4) Yw.nd rfl lc)) (cU (Mr (ig hK T.tR ae7 hr.m (λW ok=>(aN (qv 4) (a3 (qv 3) (qv 1) (qv 2))))))))
    (cU (aZ (λW ok=>(bI (i_ (qv 3))))))))),?_⟩
 refine aF λkk hkk=>?_
 have ez:∀m:Nat,(List.replicate m [D.int 0]).flatten=(List.replicate m (0:Int)).map D.int:=λm=>Lq m 0
 obtain ⟨I,hI⟩:∃I:Nat->List (List Int)->aQ->Prop,I=(λ(i:Nat) ys p=>ys=List.replicate i (List.replicate (N+1) 0)/\∃w:Option D,p=[Option.map Sl.d w,some (.d (.lst (ps.map D.int))),some (.d (.int N)),some (.d (.int O)),none,none]):=⟨_,rfl⟩
 refine RD (n:=O+1) (item:=λi=>.int (i:Int)) (p1:=_) (λQ h=>by
  simp only [Q]
  have e:((O:Int)+1).toNat=O+1:=by omega
  rw [e]
  exact ⟨by omega,by omega,h⟩) (by omega) I (by rw [hI];exact ⟨rfl,none,rfl⟩) (λi ys p h=>by rw [hI] at h;rw [h.1,zE];exact zx _) ?_ ?_
 ·intro i ys p hi B
  rw [hI] at B
  obtain ⟨rfl,w,rfl⟩:=B
  have go:∀p',p'=[some (Sl.d (D.int (i:Int))),some (.d (.lst (ps.map D.int))),some (.d (.int N)),some (.d (.int O)),none,none]->∃ns,(List.replicate ((N:Int)+1).toNat [D.int 0]).flatten=List.map D.int ns/\I (i+1) (List.replicate i (List.replicate (N+1) 0)++[ns]) p':=λp' e=>by
   refine ⟨_,ez _,?_⟩
   rw [hI,show ((N:Int)+1).toNat=N+1 by omega]
   exact ⟨by rw [List.replicate_succ' (n:=i)],some (.int i),e⟩
  cases w<;>(simp only [Q];exact ⟨by omega,by omega,by omega,go _ rfl⟩)
 intro ys p B x W1 U _
 rw [hI] at B
 obtain ⟨rfl,w,rfl⟩:=B
 refine ⟨rfl,hkk _ _ ?_⟩
 obtain ⟨bs,hx,nx,Y⟩:=U
 have hb:=Y.len
 rw [zE] at hb
 obtain ⟨b0,e0⟩:∃b,bs[0]? = some b:=⟨_,zg (by omega)⟩
 have h0:=Y.at_ 0 b0 (List.replicate (N+1) 0) e0 (by rw [zU,zm (by omega)])
 have f0:iy (bs.map V.ref) 0=some (.ref b0):=fu (by decide) e0
 have i0:Ab ((List.replicate (N+1) (0:Int)).map V.int).length 0=some 0:=by exact qP (by decide) (by rw [zd,zE];exact Nat.succ_pos _)
 obtain ⟨z0,hz0⟩:∃z,z=List.replicate (N+1) (0:Int):=⟨_,rfl⟩
 rw [<-hz0] at h0 i0
 refine aF λkk hkk=>?_
 simp only [R,hx,f0,h0,i0]
 refine hkk _ _ ?_
 have nb:x≠b0:=λe=>nx (by rw [e];exact yE e0)
 have Jm:=Y.wr (ns:=z0.set 0 1) e0
 rw [hz0,Jd] at Jm
 have U:Jl (upd W1 b0 (.lst ((z0.map V.int).set 0 (.int 1)))) x (([1]++List.replicate N 0)::List.replicate O (List.replicate (N+1) 0)):=⟨bs,by rw [az nb];exact hx,nx,by rw [tU,hz0];exact Jm⟩
 generalize upd W1 b0 (.lst ((z0.map V.int).set 0 (.int 1)))=W2 at U
 obtain ⟨J,hJ⟩:∃J:Nat->Hp->aQ->Prop,J=(λ(i:Nat) W p=>∃(ms:List (List Int)) (w4:Option D),Jl W x ms/\M.Tab (ps.take i).reverse N O ms/\p=[some (.d (.lst (ps.map D.int))),some (.d (.int N)),some (.d (.int O)),some (.d (.atom (.ref x))),Option.map Sl.d w4]):=⟨_,rfl⟩
 refine sV (jx (n:=(ps.map D.int).length) (item:=λi=>(ps.map D.int).getD i .non) (p1:=_) (λQ h=>by simp only [Hh];exact h) J (by rw [hJ];exact ⟨_,none,U,M.Tab.nil,rfl⟩) ?_ ?_)
 ·intro i W p hi B
  rw [hJ] at B
  obtain ⟨ms,w4,U,hT,rfl⟩:=B
  rw [zd] at hi
  rw [getD_ints hi]
  have hm:ps.getD i 0∈ps:=by rw [zn,zg hi];exact yh hi
  have g:=B _ hm
  simp only [R,abE]
  refine ⟨N,rfl,O,rfl,_,ms,U,hT,g.1,g.2,n1,k1,S8 hs hi,λW' ms' hM' hT'=>?_⟩
  rw [hJ]
  exact ⟨ms',some _,hM',by rw [Ph hi];exact hT',rfl⟩
 ·intro W p B
  rw [hJ] at B
  obtain ⟨ms,w4,U,hT,rfl⟩:=B
  rw [zd,List.take_length] at hT
  simp only [Hh]
  exact q _ _ _ U hT
theorem Ez {b n:Int} (z:0<=n):∀y∈M.bA b n,(0:Int)<y/\y<=n:=λy B=>by
 have:=(M.iI z).mp B
 omega
def S_U:eZ:=λas R=>∃(n b:Int) (k:Nat),as=[.d (.int n),.d (.int b),.d (.int k)]/\0<=n/\n<=2000/\2<=b/\b<=36/\k<=2000/\R (.rd (.int (M.cg true (M.bA b n).reverse k n))) as
theorem ae8 (T:Zs K mg cs):Ok P w base 5 T.kI S_U:=by
 have U:=jN P w base T
 have Y:=YL P w base T
 have O:=Pg P w base T
 refine T.kI.F.gC abr (λas R h=>?_) (λcdv A outer s H E C as R D I h=>?_)
 ·obtain ⟨_,_,_,rfl,_⟩:=h;rfl
 have hu:=I.units
 obtain ⟨n,b,k,rfl,J,n1,b0,Z,k1,q⟩:=h
 refine ⟨_,(DX (aR (aZ (λW ok=>(nO (ak (aj D T.aG U I.m (a1 (qv 1)))))))
    (aR (qd (i:=3) abr.nd rfl lc (ig D T.jk Y I.m (λW ok=>(a3 (ak (aj D T.cL O I.m (a2 (qv 0) (qv 1)))) (qv 0) (qv 2)))))
    (cU (aZ (λW ok=>(bI (i_ (dG ok D (dG ok D (qv 3) (qv 2) (λ_ _=>rfl)) (qv 0) (λ_ _=>rfl)))))))))),?_⟩
 show uh _ _ _ _ _
 refine aF λkk z=>?_
 simp only [R,S_a]
 refine ⟨b0,Z,z _ _ ?_⟩
 refine aF λkk z=>?_
 simp only [R,Zi,S_F]
 refine ⟨J,by omega,b0,Z,_,rfl,n.toNat,by omega,k,rfl,by omega,k1,λy hy=>?_,M.iu b n,λW' x ms hM hT=>z _ _ ?_⟩
 ·have:=Ez J y hy
  omega
 obtain ⟨bs,hx,nx,B⟩:=hM
 have hb:=B.len
 have hl:=hT.qT.len
 have g:=hT.val k n.toNat (zx _) (zx _)
 rw [show ((n.toNat:Nat):Int)=n by omega] at g
 obtain ⟨r,s1,y1⟩:=M.gA g
 obtain ⟨b',e1⟩:∃b',bs[k]? = some b':=⟨_,zg (by omega)⟩
 have f1:iy (bs.map V.ref) (k:Int)=some (.ref b'):=fu (by omega) (by rw [xB];exact e1)
 have h1:=B.at_ _ _ _ e1 s1
 have x1:iy (r.map V.int) n=some (.int (M.cg true (M.bA b n).reverse k n)):=ji J y1
 simp only [R,hx,f1,h1,x1]
 exact q
def S_L:Cu:=λW ds R=>∃(n:Int) (x:Addr) (N B:Nat) (ps:List Int) (ms:List (List Int)),ds=[.int n,.atom (.ref x),.int N,.int B]/\Jl W x ms/\M.Tab (n::ps) N B ms/\0<n/\n<=2000/\N<=2000/\B<=2000/\(∀y∈ps,y<=n) /\
 ∀D z,Jl D x z->M.Tab ps N B z->R .non D
theorem ae9 (T:Zs K mg cs):YF P w base 2 T.mY S_L:=by
 have G_Z:=abD P w base T
 refine T.mY.F.Uc O1 (λW ds R h=>?_) (λcdv A outer s H E C W ds R hK hr h=>?_)
 ·obtain ⟨_,_,_,_,_,_,rfl,_⟩:=h;rfl
 have hu:=hr.units
 obtain ⟨B,x,N,Kk,ps,ms,rfl,⟨bs,Y,nx,UL⟩,hT,p0,p1,n1,k1,hps,q⟩:=h
 refine ⟨_,(cU (oh zL rfl (λW ok=>(XX rfl T.mU rfl T.fG (a2 qi (cT (qv 3) qi)))) (λW ok=>(aH (i:=4) O1.nd rfl lc)) (aR (aZ (λW ok=>(aU (i:=5) O1.nd rfl lc (dG ok hK (qv 1) (qv 4) (λ_ _=>rfl)))))
    (aR (aZ (λW ok=>(aU (i:=6) O1.nd rfl lc (dG ok hK (qv 1) (bV (qv 4) qi) (λ_ _=>rfl)))))
    (cU (oh zL rfl (λW ok=>(fM hK (ak (aj hK T.oO G_Z hr.m (aN (qv 0) (a3 (qv 4) (qv 2) (qv 3))))))) (λW ok=>(aH (i:=7) O1.nd rfl lc)) (cU (Mv Vw (λW ok=>(qv 5)) (λW ok=>(qv 7)) (λW ok=>(dG ok hK (qv 6) (bV (qv 7) (qv 0)) (λ_ _=>rfl))))))))))),?_⟩
 obtain ⟨I,hI⟩:∃I:Nat->Hp->aQ->Prop,I=(λ(i:Nat) W p=>∃(ms:List (List Int)) (w4 w5 w6 w7:Option D),W x=some (.lst (bs.map V.ref))/\uK W bs ms/\M.Ep B ps N Kk i ms/\p=[some (.d (.int B)),some (.d (.atom (.ref x))),some (.d (.int N)),some (.d (.int Kk)),Option.map Sl.d w4,Option.map Sl.d w5,Option.map Sl.d w6,Option.map Sl.d w7]):=⟨_,rfl⟩
 refine jx (n:=Kk) (item:=λi=>.int ((Kk:Int) - (i:Int))) (p1:=_) (λQ h=>by
  simp only [Q]
  have e:((Kk:Int)+1 - 1).toNat=Kk:=by omega
  rw [e]
  have e2:∀k:Nat,(1:Int)+(Kk:Int) - 1 - (k:Int)=(Kk:Int) - (k:Int):=λk=>by omega
  simp only [e2]
  exact ⟨by omega,by omega,h⟩) I (by rw [hI];exact ⟨ms,none,none,none,none,Y,UL,hT.Yp,rfl⟩) ?_ ?_
 ·intro i W p hi Z
  rw [hI] at Z
  obtain ⟨ms,w4,w5,w6,w7,Y,Jm,hT,rfl⟩:=Z
  obtain ⟨O,hi0⟩:∃O:Nat,O+1+i=Kk:=⟨Kk - i - 1,by omega⟩
  have es:(Kk:Int) - (i:Int)=1+(O:Int):=by omega
  rw [es]
  have hb:bs.length=ms.length:=Jm.len
  have hl:=hT.qT.len
  obtain ⟨b1,e1⟩:∃b,bs[O+1]? = some b:=⟨_,zg (by omega)⟩
  obtain ⟨b0,e0⟩:∃b,bs[O]? = some b:=⟨_,zg (by omega)⟩
  have f1:iy (bs.map V.ref) (1+(O:Int))=some (.ref b1):=fu (by omega) (by rw [show (1+(O:Int)).toNat=O+1 by omega];exact e1)
  have f0:iy (bs.map V.ref) (1+(O:Int) - 1)=some (.ref b0):=fu (by omega) (by rw [show (1+(O:Int) - 1).toNat=O by omega];exact e0)
  simp only [Hg]
  refine aF λkk hkk=>?_
  simp only [R,Y,f1]
  refine hkk _ _ ?_
  refine aF λkk hkk=>?_
  simp only [R,Y,f0]
  refine hkk _ _ ?_
  refine Mz ?_
  simp only [R,S_Z]
  refine ⟨by omega,by omega,by omega,by omega,by omega,by omega,by omega,by omega,?_⟩
  obtain ⟨z,hz⟩:∃z:Int,z=(if (N:Int) - (Kk:Int)+(1+(O:Int))<B * (1+(O:Int)) then (N:Int) - (Kk:Int)+(1+(O:Int)) else B * (1+(O:Int))):=⟨_,rfl⟩
  rw [<-hz]
  have z1:z<=(N:Int) - (Kk:Int)+(1+(O:Int)):=by rw [hz];split<;>omega
  have z2:∀t:Int,t<=(N:Int) - (Kk:Int)+(1+(O:Int))->z<t->B * ((O:Int)+1)<t:=λt h1 h2=>by
   rw [xc (O:Int) 1]
   rw [hz] at h2
   split at h2<;>omega
  obtain ⟨n,hn⟩:∃n,n=(z+1 - (B+(1+(O:Int)) - 1)).toNat:=⟨_,rfl⟩
  rw [<-hn]
  obtain ⟨J,hJ⟩:∃J:Nat->Hp->aQ->Prop,J=(λ(k:Nat) W p=>∃(ms:List (List Int)) (w7:Option D),W x=some (.lst (bs.map V.ref))/\uK W bs ms/\M.wN B ps N Kk O (B+(O:Int)+(k:Int)) ms/\p=[some (.d (.int B)),some (.d (.atom (.ref x))),some (.d (.int N)),some (.d (.int Kk)),some (.d (.int (1+(O:Int)))),some (.d (.atom (.ref b1))),some (.d (.atom (.ref b0))),Option.map Sl.d w7]):=⟨_,rfl⟩
  refine jx (n:=((pI (B+(1+(O:Int)) - 1) n).map D.int).length) (item:=λk=>((pI (B+(1+(O:Int)) - 1) n).map D.int).getD k .non) (p1:=_) (λQ h=>h) J (by rw [hJ];exact ⟨ms,w7,Y,Jm,by have:=hT.go (i:=O) p0 (by omega);simpa using this,rfl⟩) ?_ ?_
  ·intro k W p hk Z
   rw [hJ] at Z
   obtain ⟨ms,w7,Y,U,hT,rfl⟩:=Z
   rw [zd,jh] at hk
   rw [Ce hk]
   have ec:B+(1+(O:Int)) - 1+(k:Int)=B+(O:Int)+(k:Int):=by omega
   rw [ec]
   obtain ⟨c,hc⟩:∃c,c=B+(O:Int)+(k:Int):=⟨_,rfl⟩
   rw [<-hc] at hT ⊢
   obtain ⟨g1,g0⟩:=hT.read (by omega) (t0:=c.toNat) (by omega) p0 (by omega) (by omega)
   obtain ⟨r1,s1,y1⟩:=M.gA g1
   obtain ⟨r0,s0,y0⟩:=M.gA g0
   have h1:=U.at_ _ _ _ e1 s1
   have h0:=U.at_ _ _ _ e0 s0
   have x1:(r1.map V.int)[c.toNat]? = some (.int (M.cg true (B::ps) (O+1) c)):=by rw [zO,y1];rfl
   have x0:iy (r0.map V.int) (c - B)=some (.int (M.cg true (B::ps) O (c - B))):=ji (by omega) y0
   simp only [R,h1,h0,x1,x0]
   refine ⟨by omega,?_⟩
   rw [hJ,tU]
   have nb:x≠b1:=λe=>nx (by rw [e];exact yE e1)
   refine ⟨_,some (.int c),by rw [az nb];exact Y,U.wr e1,?_,rfl⟩
   have:=hT.step p0 (by omega) (t0:=c.toNat) (by omega) (by omega) (by omega) s1 rfl
   have e2:B+(O:Int)+((k+1:Nat):Int)=c+1:=by rw [hc];push_cast;omega
   rw [e2]
   exact this
  ·intro W p Z
   rw [hJ] at Z
   obtain ⟨ms,w7,Y,U,hT,rfl⟩:=Z
   rw [zd,jh] at hT
   show I (i+1) _ _
   rw [hI]
   refine ⟨ms,some (.int (1+(O:Int))),some _,some _,w7,Y,U,hT.fin (j:=i) (by omega) p0 hps λt h1 h2=>z2 t (by omega) (by omega),rfl⟩
 ·intro W p Z
  rw [hI] at Z
  obtain ⟨ms,w4,w5,w6,w7,Y,Jm,hT,rfl⟩:=Z
  exact q W ms ⟨bs,Y,nx,Jm⟩ hT.fin
def S_p:Cu:=λW ds R=>∃(n:Int) (x:Addr) (N z:Nat) (ps:List Int) (ms:List (List Int)),ds=[.int n,.atom (.ref x),.int N,.int z]/\Jl W x ms/\M.Tab (n::ps) N z ms/\0<n/\R (.int (M.cf n ps z N)) W
theorem afb (T:Zs K mg cs):YF P w base 1 T.dB S_p:=by
 refine T.dB.F.Uc aeU (λW ds R h=>?_) (λcdv A outer s H E C W ds R I hr h=>?_)
 ·obtain ⟨_,_,_,_,_,_,rfl,_⟩:=h;rfl
 have Z:=hr.units
 obtain ⟨n,x,N,z,ps,ms,rfl,⟨bs,Y,nx,B⟩,hT,p0,q⟩:=h
 refine ⟨_,(aR (aZ (λW ok=>(bx (PW.pt (w_or (dh I Z (qv 3) qi) (uF (HX (qv 0) (qv 2))))) (sr qi) aP)))
    (cU (aZ (λW ok=>(bI (i_ (dG ok I (dG ok I (qv 1) (bV (qv 3) qi) (λ_ _=>rfl)) (bV (qv 2) (qv 0)) (λ_ _=>rfl)))))))),?_⟩
 refine aF λkk D=>?_
 by_cases c:z=0\/(N:Int)<n
 ·have e:M.cf n ps z N=0:=by unfold M.cf;rw [zm c]
  rw [e] at q
  simp only [R]
  by_cases k0:(z:Int)=0
  ·rw [zm k0];exact q
  ·rw [zi k0,zm (by omega)];exact q
 ·have e:M.cf n ps z N=M.cg true (n::ps) (z - 1) ((N:Int) - n):=by unfold M.cf;rw [zi c]
  rw [e] at q
  simp only [R]
  rw [zi (by omega),zi (by omega)]
  refine D _ _ ?_
  have hb:=B.len
  have hl:=hT.qT.len
  have g:=hT.val (z - 1) ((N:Int) - n).toNat (by omega) (by omega)
  rw [show ((((N:Int) - n).toNat:Nat):Int)=(N:Int) - n by omega] at g
  obtain ⟨r,U,J⟩:=M.gA g
  obtain ⟨b',e1⟩:∃b',bs[z - 1]? = some b':=⟨_,zg (by omega)⟩
  have f1:iy (bs.map V.ref) ((z:Int) - 1)=some (.ref b'):=fu (by omega) (by rw [show ((z:Int) - 1).toNat=z - 1 by omega];exact e1)
  have h1:=B.at_ _ _ _ e1 U
  have O:iy (r.map V.int) ((N:Int) - n)=some (.int (M.cg true (n::ps) (z - 1) ((N:Int) - n))):=ji (by omega) J
  simp only [R,Y,f1,h1,O]
  exact q
theorem Je {qs:List Int} {i:Nat} (h:i<qs.length):(qs.map D.int).getD (qs.length - 1 - i) .non=.int (qs.reverse.getD i 0):=by
 rw [zn,zO,zn,List.getElem?_reverse h,zg (show qs.length - 1 - i<qs.length by omega)];rfl
theorem S9 {ps:List Int} {i:Nat} (h:i<ps.length):ps.drop i=ps.getD i 0::ps.drop (i+1):=by
 rw [List.drop_eq_getElem_cons h,zn,zg h];rfl
theorem YM {p:Int} {ps:List Int} {K:Nat} {N a:Int} (h0:0<=a) (h:a<M.cf p ps K N):0<K/\p<=N:=by
 unfold M.cf at h
 by_cases z:K=0\/N<p
 ·rw [zm z] at h;omega
 ·omega
def S_z:eZ:=λas R=>∃(n b pl:Int) (k:Nat),as=[.d (.int n),.d (.int b),.d (.int k),.d (.int pl)]/\0<=n/\n<=2000/\2<=b/\b<=36/\k<=2000/\0<=pl/\pl<M.cg true (M.bA b n).reverse k n/\R (.ro ((M.qu (M.bA b n).reverse k n pl).map D.int)) as
theorem afc (T:Zs K mg cs):Ok P w base 5 T.jm S_z:=by
 have xN:=jN P w base T
 have G_d:=Pg P w base T
 have G_F:=YL P w base T
 have G_p:=afb P w base T
 have G_L:=ae9 P w base T
 have G_m:=O8 P w base T
 refine T.jm.F.gC oJ (λas R h=>?_) (λcdv A outer s H E C as R Y hr h=>?_)
 ·obtain ⟨_,_,_,_,rfl,_⟩:=h;rfl
 have hu:=hr.units
 obtain ⟨n,b,pl,k,rfl,n0,n1,b0,b1,k1,l0,l1,q⟩:=h
 obtain ⟨N,rfl⟩:∃N:Nat,n=(N:Int):=⟨n.toNat,by omega⟩
 refine ⟨_,(DX (aR (aZ (λW ok=>(nO (ak (aj Y T.aG xN hr.m (a1 (qv 1)))))))
    (aR (aZ (λW ok=>(bx (PW.pt (w_or (iC (gP (ak (aj Y T.eH G_m hr.m (a1 (qv 3)))))) (uF (rT (qv 3) qi)))) (aL pD) aP)))
    (aR (aZ (λW ok=>(aU (i:=4) oJ.nd rfl lc (ak (aj Y T.cL G_d hr.m (a2 (qv 0) (qv 1)))))))
    (aR (qd (i:=5) oJ.nd rfl lc (ig Y T.jk G_F hr.m (λW ok=>(a3 (qv 4) (qv 0) (qv 2)))))
    (aR (aZ (λW ok=>(bx (Dr (qv 3) (dG ok Y (dG ok Y (qv 5) (qv 2) (λ_ _=>rfl)) (qv 0) (λ_ _=>rfl))) (aL pD) aP)))
    (aR (aZ (λW ok=>(gG (i:=6) oJ.nd rfl lc (bG dY))))
    (aR (aZ (λW ok=>(aU (i:=7) oJ.nd rfl lc (qv 0))))
    (aR (aZ (λW ok=>(aU (i:=8) oJ.nd rfl lc (qv 3))))
    (aR (oh zL rfl (λW ok=>(T_ Y rfl T.mU (a1 (qv 4)))) (λW ok=>(aH (i:=9) oJ.nd rfl lc)) (aR (qd (i:=10) oJ.nd rfl lc (ig Y T.dB G_p hr.m (λW ok=>(aN (qv 9) (a3 (qv 5) (qv 7) (bV (qv 2) (fc Y rfl T.fH (a1 (qv 6)))))))))
    (aR (Rz zL (λW ok=>(rT (qv 8) (qv 10))) (aR (aZ (λW ok=>(nO (gn Y (pv 6) (a1 (qv 9))))))
    (aR (aZ (λW ok=>(W9 (i:=7) oJ.nd rfl lc (qv 9))))
    (cU (qd (i:=10) oJ.nd rfl lc (ig Y T.dB G_p hr.m (λW ok=>(aN (qv 9) (a3 (qv 5) (qv 7) (bV (qv 2) (fc Y rfl T.fH (a1 (qv 6)))))))))))))
    (aR (aZ (λW ok=>(W9 (i:=8) oJ.nd rfl lc (qv 10))))
    (cU (Mr (ig Y T.mY G_L hr.m (λW ok=>(aN (qv 9) (a3 (qv 5) (qv 7) (bV (qv 2) (fc Y rfl T.fH (a1 (qv 6))))))))))))))
    (cU (aZ (λW ok=>(mj (i:=6) (pv 6))))))))))))))),?_⟩
 show uh _ _ _ _ _
 refine aF λkk B=>?_
 simp only [R,S_a]
 refine ⟨b0,b1,B _ _ ?_⟩
 refine aF λkk B=>?_
 simp only [R,S_m]
 rw [zi (by omega)]
 refine B _ _ ?_
 refine aF λkk B=>?_
 simp only [R,Zi]
 refine ⟨by omega,by omega,b0,b1,B _ _ ?_⟩
 refine aF λkk B=>?_
 simp only [R,S_F]
 have bd:=Ez (b:=b) (n:=(N:Int)) (by omega)
 refine ⟨by omega,k1,λy hy=>?_,M.iu b N,λW' x ms hM hT=>B _ _ ?_⟩
 ·have:=bd y hy
  omega
 have g:=hT.val k N (zx _) (zx _)
 refine aF λkk B=>?_
 have rd:∃(bs:List Addr) (b':Addr) (r:List Int),W' x=some (.lst (bs.map V.ref))/\iy (bs.map V.ref) (k:Int)=some (.ref b')/\W' b'=some (.lst (List.map V.int r))/\iy (List.map V.int r) (N:Int)=some (.int (M.cg true (M.bA b N).reverse k N)):=by
  obtain ⟨bs,hx,nx,UL⟩:=hM
  have hb:=UL.len
  have hl:=hT.qT.len
  obtain ⟨r,s1,y1⟩:=M.gA g
  obtain ⟨b',e1⟩:∃b',bs[k]? = some b':=⟨_,zg (by omega)⟩
  exact ⟨bs,b',r,hx,fu (by omega) (by rw [xB];exact e1),UL.at_ _ _ _ e1 s1,ji (by omega) (by rw [xB];exact y1)⟩
 obtain ⟨bs,b',r,r1,r2,r3,r4⟩:=rd
 simp only [R,r1,r2,r3,r4]
 rw [zi (by omega)]
 refine B _ _ ?_
 clear r1 r2 r3 r4 B
 refine aF λkk B=>?_
 simp only [R]
 refine B _ _ ?_
 refine aF λkk B=>?_
 simp only [R]
 refine B _ _ ?_
 refine aF λkk B=>?_
 simp only [R]
 refine B _ _ ?_
 have srt:(M.bA b N).reverse.Pairwise (λx y=>y<x):=List.pairwise_reverse.mpr (M.iu b N)
 have bd':∀y∈(M.bA b N).reverse,(0:Int)<y/\y<=N:=λy hy=>bd y (yi.mp hy)
 have gb:∀i,i<(M.bA b N).length->((M.bA b N).map D.int).getD ((M.bA b N).length - 1 - i) .non=.int ((M.bA b N).reverse.getD i 0):=λi hi=>Je hi
 have ln:(M.bA b N).reverse.length=(M.bA b N).length:=yP
 generalize M.bA b (N:Int)=qs at hT srt bd' gb ln q
 generalize qs.reverse=ps at hT srt bd' gb ln q
 obtain ⟨I,hI⟩:∃I:Nat->Hp->aQ->Prop,I=(λ(i:Nat) W p=>∃(ms:List (List Int)) (way:List Int) (O U:Nat) (ah:Int) (w9 w10:Option D),Jl W x ms/\M.Tab (ps.drop i) O U ms/\O<=N/\way.length+U=k/\0<=ah/\way++M.qu (ps.drop i) U O ah=M.qu ps k N pl /\
  p=[some (.d (.int N)),some (.d (.int b)),some (.d (.int k)),some (.d (.int pl)),some (.d (.lst (qs.map D.int))),some (.d (.atom (.ref x))),some (.own (way.map D.int)),some (.d (.int O)),some (.d (.int ah)),Option.map Sl.d w9,Option.map Sl.d w10]):=⟨_,rfl⟩
 refine sV (jx (n:=(qs.map D.int).length) (item:=λi=>(qs.map D.int).getD ((qs.map D.int).length - 1 - i) .non) (p1:=_) (λQ h=>by simp only [Q];exact h) I (by rw [hI];exact ⟨ms,[],N,k,pl,none,none,hM,hT,zx _,by simp,l0,rfl,rfl⟩) ?_ ?_)
 ·intro i W p hi hp
  rw [hI] at hp
  obtain ⟨ms,way,O,U,ah,w9,w10,hM,hT,hN',hk',a0,Z,rfl⟩:=hp
  rw [zd] at hi ⊢
  rw [gb i hi]
  rw [<-ln] at hi
  have da:=S9 hi
  have hm:ps.getD i 0∈ps:=by rw [zn,zg hi];exact yh hi
  obtain ⟨p0,p1⟩:=bd' _ hm
  have hps:∀y∈ps.drop (i+1),y<=ps.getD i 0:=λy hy=>by
   have s2:=srt.drop (i:=i)
   rw [da,List.pairwise_cons] at s2
   have:=s2.1 y hy
   omega
  rw [da] at hT Z
  generalize ps.getD i 0=pt at p0 p1 hT Z hps
  generalize afh:ps.drop (i+1)=ps' at hT Z hps
  simp only [R]
  refine aF λkk B=>?_
  simp only [R,S_p]
  refine ⟨O,rfl,U,by rw [zd];omega,ps',ms,hM,hT,p0,B _ _ ?_⟩
  obtain ⟨J,hJ⟩:∃J:Hp->aQ->Prop,J=(λW p=>∃(ms:List (List Int)) (way:List Int) (O U:Nat),Jl W x ms/\M.Tab (pt::ps') O U ms/\O<=N/\way.length+U=k/\way++M.qu (pt::ps') U O ah=M.qu ps k N pl /\
   p=[some (.d (.int N)),some (.d (.int b)),some (.d (.int k)),some (.d (.int pl)),some (.d (.lst (qs.map D.int))),some (.d (.atom (.ref x))),some (.own (way.map D.int)),some (.d (.int O)),some (.d (.int ah)),some (.d (.int pt)),some (.d (.int (M.cf pt ps' U O)))]):=⟨_,rfl⟩
  refine sV (MF J (λp=>match p[6]? with|some (some (Sl.own xs))=>k - xs.length|_=>0) (by rw [hJ];exact ⟨ms,way,O,U,hM,hT,hN',hk',Z,rfl⟩) ?_)
  intro W1 p1 hp1
  rw [hJ] at hp1
  obtain ⟨ms,way,O,U,hM,hT,hN',hk',Z,rfl⟩:=hp1
  simp only [R]
  by_cases c:ah<M.cf pt ps' U O
  ·rw [zm c]
   obtain ⟨c1,c2⟩:=YM a0 c
   rw [M.wQ ⟨c1,c⟩] at Z
   refine aF λkk B=>?_
   simp only [R]
   refine ⟨by rw [zd];omega,B _ _ ?_⟩
   refine aF λkk B=>?_
   simp only [R]
   refine B _ _ ?_
   have ew:way.map D.int++[D.int pt]=(way++[pt]).map D.int:=by rw [yf];rfl
   rw [ew]
   simp only [R,S_p]
   refine ⟨(O:Int).toNat - pt.toNat,by omega,U - 1,by rw [zd,zj,yd];omega,ps',ms,hM,hT.less (by omega) (by omega),p0,?_⟩
   have en:(((O:Int).toNat - pt.toNat:Nat):Int)=(O:Int) - pt:=by omega
   rw [en]
   refine ⟨?_,by rw [zd,zj,yd,zd];omega⟩
   rw [hJ]
   exact ⟨ms,way++[pt],(O:Int).toNat - pt.toNat,U - 1,hM,hT.less (by omega) (by omega),by omega,by rw [zj,yd];omega,by rw [en,yH];exact Z,by rw [en]⟩
  ·rw [zi c]
   rw [M.wR (λz=>c z.2)] at Z
   refine aF λkk B=>?_
   simp only [R]
   refine B _ _ ?_
   simp only [R,S_L]
   refine ⟨O,rfl,U,by rw [zd];omega,ps',ms,hM,hT,p0,by omega,by omega,by omega,hps,λW' ms' hM' hT'=>?_⟩
   show I (i+1) _ _
   subst afh
   rw [hI]
   exact ⟨ms',way,O,U,ah - M.cf pt (ps.drop (i+1)) U O,some _,some _,hM',hT',hN',hk',by omega,Z,rfl⟩
 ·intro W p hp
  rw [hI] at hp
  obtain ⟨ms,way,O,U,ah,w9,w10,hM,hT,hN',hk',a0,Z,rfl⟩:=hp
  rw [zd,<-ln,List.drop_length,M.wU,zW] at Z
  rw [<-Z] at q
  simp only [Q]
  exact q
def afi:eZ:=λas R=>∃n b:Int,as=[.d (.int n),.d (.int b)]/\0<=n/\n<=10 ^ 6/\2<=b/\b<=36/\R (.ro ((M.tw b n).map λx=>D.lst [.int (n - x),.int x])) as
theorem Pj {b n:Int} (B:2<=b) (z:b<=36) (D:0<=n) (n1:n<=10 ^ 6):(M.bA b (n / 2)).length<80000/\∀i,i<(M.bA b (n / 2)).length->1<=(M.bA b (n / 2)).getD i 0/\(M.bA b (n / 2)).getD i 0<=n / 2/\M.bQ b ((M.bA b (n / 2)).getD i 0)=true:=by
 have h1:=M.ou b (n / 2)
 have h2:=M.wu (n:=n / 2) B z (by omega) (by omega)
 refine ⟨by omega,λi hi=>?_⟩
 refine (M.iI (by omega)).mp ?_
 rw [zn,zg hi];exact yh hi
theorem abG (T:Zs K mg cs):Ok P w base 5 T.tQ afi:=by
 have Y:=jN P w base T
 have U:=Pg P w base T
 have O:=O_ P w base T
 refine T.tQ.F.gC abp (λas R h=>?_) (λcdv A outer s H E C as R B z h=>?_)
 ·obtain ⟨_,_,rfl,_⟩:=h;rfl
 have hu:=z.units
 obtain ⟨n,b,rfl,n0,n1,J,I,q⟩:=h
 have nB:n<M.sZ:=M.v_ (yw n1 (by decide))
 obtain ⟨lm,am⟩:=Pj J I n0 n1
 have fr:=M.wD (λx=>M.bQ b (n - x)) (λx=>D.lst [.int (n - x),.int x]) (M.bA b (n / 2))
 unfold M.tw at q
 rw [<-fr] at q
 generalize hG:M.bA b (n / 2)=xs at *
 refine ⟨_,(bh (nO (ak (aj B T.aG Y z.m (a1 (qv 1)))))
    (aL (bI (mF (N:=["lesser","number","base"]) (k:=1) (a_.of (show g_ (aa Yu) ["number","base"] _ ["lesser","number","base"] 1 from ⟨by rfl,by decide,by decide,by rfl,by decide,by decide,by decide,by decide⟩)) rfl (fM B (ak (aj B T.cL U z.m (a2 (iM (qv 0) qi) (qv 1))))) (λZ s H fp=>(d8 (i:=0) (by decide) (show List.Nodup (["lesser","number","base"]:List Str) by decide) rfl (Or.inl rfl) (Or.inr rfl))) (λZ s H fp=>(Xe (gP (ak (aj B T.cJ O z.m (a2 (bV (qv 1) (qv 0)) (qv 2))))))) (λZ s H fp=>(ak (bG (a2 (bV (qv 1) (qv 0)) (qv 0))))))))),?_⟩
 refine cV ?_
 simp only [R,S_a]
 refine ⟨J,I,?_⟩
 simp only [S]
 refine Be (n:=xs.length) (item:=λi=>(xs.map D.int).getD i .non) (p1:=_) (λQ h=>by
   simp only [Q,Zi,hG,zd]
   exact ⟨by omega,by omega,J,I,h⟩) (by omega) (λi=>M.bQ b (n - xs.getD i 0)) (λi=>.lst [.int (n - xs.getD i 0),.int (xs.getD i 0)]) (λi R hi h=>?_) (λi R hi hf h=>?_) ?_
 ·obtain ⟨a1,a2,a3⟩:=am i hi
  rw [getD_ints hi] at h ⊢
  simp only [Q,S_g]
  exact ⟨by omega,by omega,J,I,h⟩
 ·rw [getD_ints hi] at h ⊢
  simp only [Q]
  exact h
 simp only [Q]
 exact q
def S_G:eZ:=λas R=>∃n b:Int,as=[.d (.int n),.d (.int b)]/\0<=n/\n<=10 ^ 6/\2<=b/\b<=36/\R (.rd (.int ((M.tw b n).length:Int))) as
theorem abH (T:Zs K mg cs):Ok P w base 6 T.gh S_G:=by
 have J:=jN P w base T
 have z:=abG P w base T
 refine T.gh.F.gC aeO (λas R h=>?_) (λZ A outer s H E C as R I B h=>?_)
 ·obtain ⟨_,_,rfl,_⟩:=h;rfl
 have hu:=B.units
 obtain ⟨n,b,rfl,Y,n1,U,O,q⟩:=h
 refine ⟨_,(bh (nO (ak (aj I T.aG J B.m (a1 (qv 1)))))
    (sr (fc I rfl T.fH (a1 (ak (aj I T.tQ z B.m (a2 (qv 0) (qv 1)))))))),?_⟩
 simp only [Hh]
 refine ⟨U,O,?_⟩
 simp only [Hh]
 refine ⟨Y,n1,U,O,?_⟩
 simp only [Hh]
 rw [show (M.tw b n).length=((M.tw b n).map λx=>D.lst [.int (n - x),.int x]).length by rw [zd]] at q
 exact q
def kn (xs:List Int):D:=.uf (xs.map Sum.inl) (xs.map λ_=>D.bl true)
theorem S_ {b N x:Int} (hN:0<=N) (J:1<=x) (I:x<=N):sI (Sum.inl x) ((M.bA b N).map Sum.inl)=M.bQ b x:=by
 cases n:M.bQ b x with
 | true=>exact sJ.mpr (yb.mpr ⟨x,(M.iI hN).mpr ⟨J,I,n⟩,rfl⟩)
 | false=>
  cases z:sI (Sum.inl x) ((M.bA b N).map Sum.inl) with
  | false=>rfl
  | true=>
   obtain ⟨y,D,B⟩:=yb.mp (sJ.mp z)
   cases B
   have:=((M.iI hN).mp D).2.2
   rw [n] at this;cases this
theorem Pk {b N:Int} (hN:0<=N) {i:Nat} (hi:i<(M.bA b N).length):1<=(M.bA b N).getD i 0/\(M.bA b N).getD i 0<=N/\M.bQ b ((M.bA b N).getD i 0)=true:=by
 refine (M.iI hN).mp ?_
 rw [zn,zg hi];exact yh hi
theorem wW {b N x:Int} (hN:0<=N) (D:1<=x) (B:x<=N) (z:M.bQ b x=true):∃j,j<(M.bA b N).length/\(M.bA b N).getD j 0=x:=by
 obtain ⟨j,n,e⟩:=xv ((M.iI hN).mpr ⟨D,B,z⟩)
 exact ⟨j,n,by rw [zn,zg n];exact e⟩
theorem tV {b N:Int} {i j:Nat} (h:i<j) (n:j<(M.bA b N).length):(M.bA b N).getD i 0<(M.bA b N).getD j 0:=by
 have:=List.pairwise_iff_getElem.mp (M.iu b N) i j (by omega) n h
 rw [zn,zg (show i<(M.bA b N).length by omega),zn,zg n]
 exact this
theorem kJ {b N:Int} (B:2<=b) (z:b<=36) (hN:0<=N) (n:N<=10 ^ 6):(M.bA b N).length<80000:=by
 have h1:=M.ou b N
 have h2:=M.wu B z hN n
 omega
def S_D:eZ:=λas R=>∃(n b N:Int),as=[.d (.int n),.d (.lst ((M.bA b N).map D.int)),.d (kn (M.bA b N))]/\0<=n/\n<=N/\N<=10 ^ 6/\2<=b/\b<=36/\(¬M.Sm b 2 n->R (.rd .non) as)/\∀L,M.Gt b 2 n L->R (.ro (L.map D.int)) as
theorem Pn {b n:Int} (h:M.Sm b 2 n):∃q,1<=q/\M.bQ b q=true/\2 * q<=n/\M.bQ b (n - q)=true:=by
 obtain ⟨L,w⟩:=h.way
 obtain ⟨p,r,rfl⟩:=w.cons
 obtain ⟨B,p1,I,J⟩:=w.head
 obtain ⟨q,O,rfl⟩:=B.cons
 obtain ⟨z,q1,D,_⟩:=B.head
 have:=z.sum
 rw [List.length_eq_zero_iff.mp z.len] at this
 have e:n - p - q=0:=by simpa using this.symm
 have U:=J q zo
 exact ⟨q,q1,D,by omega,by rw [show n - q=p by omega];exact I⟩
theorem afj (T:Zs K mg cs):Ok P w base 1 T.gM S_D:=by
 refine T.gM.F.gC Yv (λas R h=>?_) (λcdv A outer s H E C as R hK hr h=>?_)
 ·obtain ⟨_,_,_,rfl,_⟩:=h;rfl
 have hu:=hr.units
 obtain ⟨n,b,N,rfl,n0,n1,N6,b0,b1,q1,q2⟩:=h
 have U:0<=N:=by omega
 have lm:=kJ b0 b1 U N6
 refine ⟨_,(bh (nR zL rfl (fM hK (qv 1)) (aH (i:=3) Yv.nd rfl lc) (bh (aU (i:=4) Yv.nd rfl lc (bV (qv 0) (qv 3)))
    (bh (bx (rT (qv 4) (qv 3)) (sr (oW u5 (λ_=>.non))) aP)
    (aL (bx (Ro hu (qv 4) (qv 2)) (aL (bI (bG (a2 (qv 4) (qv 3))))) aP)))))
    (sr (oW u5 (λ_=>.non)))),?_⟩
 obtain ⟨I,Y⟩:∃I:Nat->aQ->Prop,I=(λi p=>∃w3 w4:Option D,(∀j,j<i->M.bQ b (n - (M.bA b N).getD j 0)=false/\2 * (M.bA b N).getD j 0<=n)/\p=[some (.d (.int n)),some (.d (.lst ((M.bA b N).map D.int))),some (.d (kn (M.bA b N))),Option.map Sl.d w3,Option.map Sl.d w4]):=⟨_,rfl⟩
 refine cV (sE (n:=((M.bA b N).map D.int).length) (item:=λi=>((M.bA b N).map D.int).getD i .non) (p1:=_) (λQ h=>by simp only [Hh];exact h) I (by rw [Y];exact ⟨none,none,λj J=>absurd J (by omega),rfl⟩) ?_ ?_)
 ·intro i p hi O
  rw [Y] at O
  obtain ⟨w3,w4,h0,rfl⟩:=O
  rw [zd] at hi
  obtain ⟨x1,x2,x3⟩:=Pk U hi
  rw [getD_ints hi]
  generalize hx:(M.bA b N).getD i 0=x at *
  have B:∀q,1<=q->M.bQ b q=true->q<x->M.bQ b (n - q)=false:=λq a1 a2 a3=>by
   obtain ⟨j,J,e⟩:=wW U a1 (by omega) a2
   have hji:j<i:=by
    by_cases z:j<i
    ·exact z
    ·by_cases z2:j=i
     ·rw [z2,hx] at e;omega
     ·have:=tV (b:=b) (N:=N) (show i<j by omega) J
      rw [hx,e] at this
      omega
   have:=(h0 j hji).1
   rw [e] at this;exact this
  simp only [Hh]
  refine pK (λc=>?_) (λc=>?_)
  ·simp only [Hh]
   refine q1 λs=>?_
   obtain ⟨q,a1,a2,a3,Z⟩:=Pn s
   have:=B q a1 a2 (by omega)
   rw [this] at Z;cases Z
  ·simp only [Hh]
   rw [S_ U (by omega) (by omega)]
   refine RX (λc2=>?_) (λc2=>?_)
   ·simp only [Hh]
    refine q2 [n - x,x] (.cons (by omega) c2 (.cons x1 x3 (by rw [show n - (n - x) - x=0 by omega];exact .nil) λq a1 a2 s=>?_) λq a1 a2 s=>?_)
    ·have:=s.none;omega
    ·obtain ⟨r,c1,c2',c3,c4⟩:=s.cut
     have e:=c4.none
     have:=B (n - q) (by omega) (by rw [show n - q=r by omega];exact c2') (by omega)
     rw [show n - (n - q)=q by omega,a2] at this;cases this
   ·show I (i+1) _
    rw [Y]
    refine ⟨some (.int x),some (.int (n - x)),λj J=>?_,rfl⟩
    by_cases z:j=i
    ·subst z
     rw [hx]
     exact ⟨c2,by omega⟩
    ·exact h0 j (by omega)
 ·intro p O
  rw [Y] at O
  obtain ⟨w3,w4,h0,rfl⟩:=O
  simp only [Hh]
  refine q1 λs=>?_
  obtain ⟨q,a1,a2,a3,Z⟩:=Pn s
  obtain ⟨j,J,e⟩:=wW U a1 (by omega) a2
  have:=(h0 j (by rw [zd];exact J)).1
  rw [e,Z] at this;cases this
def Jf (z:Nat):eZ:=λas R=>∃(n b N:Int) (m:Nat),as=[.d (.int n),.d (.int ((m:Nat):Int)),.d (.lst ((M.bA b N).map D.int)),.d (kn (M.bA b N))]/\0<=n/\n<=N/\N<=10 ^ 6/\2<=b/\b<=36/\2<=m/\m<=z/\m<=1000/\(¬M.Sm b m n->R (.rd .non) as)/\∀L,M.Gt b m n L->R (.ro (L.map D.int)) as
def S_k:eZ:=Jf 20
theorem YQ {b n:Int} {m:Nat} {L:List Int} (h:M.Gt b m n L):L.length=m:=h.way.len
theorem abI (T:Zs K mg cs):∀O:Nat,Ok P w base (2+O) T.cA (Jf O):=by
 intro O
 have G_D:=afj P w base T
 induction O with
 | zero=>
  refine bY.imp (sp:=DK K (Jf 0)) (T.cA.F.gC SM (λas R h=>?_) (λcdv A outer s H E C as R Z hr h=>?_)) (λ_ _ _ _ h=>h)
  ·obtain ⟨_,_,_,_,rfl,_⟩:=h;rfl
  ·obtain ⟨n,b,N,m,rfl,_,_,_,_,_,h1,h2,_,_⟩:=h;omega
 | succ O ih=>
  have G_k:=ih
  refine T.cA.F.gC (k:=2+O) SM (λas R h=>?_) (λcdv A outer s H E C as R Z hr h=>?_)
  ·obtain ⟨_,_,_,_,rfl,_⟩:=h;rfl
  have hu:=hr.units
  obtain ⟨n,b,N,m,rfl,n0,n1,N6,b0,b1,m2,m3,m4,q1,q2⟩:=h
  have N0:0<=N:=by omega
  have lm:=kJ b0 b1 N0 N6
  refine ⟨_,(bh (bx (dh Z hu (qv 1) qi) (aL (bI (aj Z T.gM G_D hr.m (a3 (qv 0) (qv 2) (qv 3))))) aP)
    (bh (nR zL rfl (T_ Z rfl T.mU (a1 (qv 2))) (aH (i:=4) SM.nd rfl lc) (bh (bx (rT (jV (qv 4) (qv 1)) (qv 0)) (sr (oW u5 (λ_=>.non))) aP)
    (aL (bx (rT (qv 4) (qv 0)) (bh (aU (i:=5) SM.nd rfl lc (ak (aj Z T.cA G_k hr.m (aN (bV (qv 0) (qv 4)) (a3 (bV (qv 1) qi) (qv 2) (qv 3))))))
    (aL (bx (KZ (qv 5)) (aL (bI (Ar (ak (bG (a1 (qv 4)))) (qv 5)))) aP))) aP))))
    (sr (oW u5 (λ_=>.non))))),?_⟩
  refine aq λkk B=>?_
  simp only [R]
  refine eX (λc=>?_) (λc=>B _ ?_)
  ·have em:m=2:=by omega
   subst em
   simp only [Hg]
   exact ⟨n0,n1,N6,b0,b1,q1,q2⟩
  obtain ⟨m,rfl⟩:∃k,m=k+1:=⟨m - 1,by omega⟩
  obtain ⟨I,hI⟩:∃I:Nat->aQ->Prop,I=(λi p=>∃w4 w5:Option D,(∀q,(i<(M.bA b N).length->(M.bA b N).getD ((M.bA b N).length - 1 - i) 0<q)->1<=q->q<=n->M.bQ b q=true->¬M.Sm b m (n - q))/\p=[some (.d (.int n)),some (.d (.int ((m+1:Nat):Int))),some (.d (.lst ((M.bA b N).map D.int))),some (.d (kn (M.bA b N))),Option.map Sl.d w4,Option.map Sl.d w5]):=⟨_,rfl⟩
  refine cV (sE (n:=((M.bA b N).map D.int).length) (item:=λi=>((M.bA b N).map D.int).getD (((M.bA b N).map D.int).length - 1 - i) .non) (p1:=_) (λQ h=>by simp only [Hh];exact h) I (by
   rw [hI]
   refine ⟨none,none,λq J a1 a2 a3=>?_,rfl⟩
   exfalso
   obtain ⟨j,hj,e⟩:=wW N0 a1 (by omega) a3
   have h1:=J (by omega)
   by_cases z:j=(M.bA b N).length - 1
   ·subst z
    rw [show (M.bA b N).length - 1 - 0=(M.bA b N).length - 1 by omega,e] at h1
    omega
   ·have:=tV (b:=b) (N:=N) (show j<(M.bA b N).length - 1 by omega) (by omega)
    rw [e] at this
    rw [show (M.bA b N).length - 1 - 0=(M.bA b N).length - 1 by omega] at h1
    omega) ?_ ?_)
  ·intro i p hi U
   rw [hI] at U
   obtain ⟨w4,w5,h0,rfl⟩:=U
   rw [zd] at hi
   have Y:(M.bA b N).length - 1 - i<(M.bA b N).length:=by omega
   obtain ⟨x1,x2,x3⟩:=Pk N0 Y
   rw [zd,getD_ints Y]
   have step:∀q,(i+1<(M.bA b N).length->(M.bA b N).getD ((M.bA b N).length - 1 - (i+1)) 0<q)->1<=q->M.bQ b q=true->q<=n->(M.bA b N).getD ((M.bA b N).length - 1 - i) 0<=q:=λq J a1 a2 a3=>by
    obtain ⟨j,hj,e⟩:=wW N0 a1 (by omega) a2
    by_cases z:(M.bA b N).length - 1 - i<=j
    ·by_cases z2:(M.bA b N).length - 1 - i=j
     ·rw [z2,e];exact yx _
     ·have:=tV (b:=b) (N:=N) (show (M.bA b N).length - 1 - i<j by omega) hj
      rw [e] at this;omega
    ·exfalso
     have h1:=J (by omega)
     by_cases z2:j=(M.bA b N).length - 1 - (i+1)
     ·rw [<-z2,e] at h1;omega
     ·have:=tV (b:=b) (N:=N) (show j<(M.bA b N).length - 1 - (i+1) by omega) (by omega)
      rw [e] at this;omega
   generalize hx:(M.bA b N).getD ((M.bA b N).length - 1 - i) 0=x at *
   have above:∀q,x<q->q<=n->M.bQ b q=true->¬M.Sm b m (n - q):=λq a1 a2 a3=>h0 q (λ_=>a1) (by omega) a2 a3
   simp only [Hg]
   refine aq λkk B=>?_
   simp only [R]
   refine ⟨Or.inl ⟨by omega,by omega⟩,?_⟩
   refine eX (λc3=>?_) (λc3=>B _ ?_)
   ·exact q1 (M.Yl c3 above)
   simp only [R]
   refine eX (λc4=>?_) (λc4=>?_)
   ·refine aq λkk B=>?_
    simp only [R,Jf]
    refine ⟨b,N,m,by omega,rfl,rfl,by omega,by omega,N6,b0,b1,by omega,by omega,by omega,λhn=>B _ ?_,λL gL=>B _ ?_⟩
    ·simp only [Hh]
     rw [hI]
     refine ⟨some (.int x),some .non,λq J a1 a2 a3=>?_,rfl⟩
     have h1:=step q J a1 a3 a2
     by_cases z:q=x
     ·subst z;exact hn
     ·exact above q (by omega) a2 a3
    ·simp only [Q]
     refine ⟨by rw [zd,YQ gL];omega,?_⟩
     exact q2 (x::L) (.cons x1 x3 gL λq a1 a2 s=>above q a1 (by have:=s.nn;omega) a2 s)
   ·simp only [Hh]
    rw [hI]
    refine ⟨some (.int x),w5,λq J a1 a2 a3=>?_,rfl⟩
    have h1:=step q J a1 a3 a2
    by_cases z:q=x
    ·subst z
     intro s
     have h2:n - q=0:=by have:=s.nn;omega
     have:=M.Oh s (by omega)
     omega
    ·exact above q (by omega) a2 a3
  ·intro p U
   rw [hI] at U
   obtain ⟨w4,w5,h0,rfl⟩:=U
   rw [zd] at h0
   simp only [Hh]
   refine q1 λs=>?_
   obtain ⟨p,a1,a2,a3,a4⟩:=s.cut
   exact h0 p (λz=>absurd z (by omega)) a1 a3 a2 a4
theorem afl (T:Zs K mg cs):Ok P w base 22 T.cA S_k:=abI _ _ _ T 20
def S_M:eZ:=λas R=>∃n b:Int,as=[.d (.int n),.d (.int b)]/\0<=n/\n<=10 ^ 6/\2<=b/\b<=36/\∀L,M.Gt b (M.nd b n) n L->R (.ro (L.map D.int)) as
theorem Tc {b:Int} (n:2<=b):M.Gt b (M.nd b 0) 0 []:=by rw [M.wG n];exact .nil
theorem YS {b n:Int} (B:2<=b) (z:1<=n) (h:M.bQ b n=true):M.Gt b (M.nd b n) n [n]:=by
 have h1:=(M.Oe B z).mpr h
 have h2:=M.Od B z
 rw [show M.nd b n=0+1 by omega]
 refine .cons z h (by rw [Int.sub_self];exact .nil) λq a1 a2 s=>?_
 have:=s.none
 omega
theorem abJ (T:Zs K mg cs):Ok P w base 23 T.oM S_M:=by
 have xN:=jN P w base T
 have G_g:=O_ P w base T
 have G_d:=Pg P w base T
 have G_k:=afl P w base T
 refine T.oM.F.gC Ex (λas R h=>?_) (λcdv A outer s H E C as R hK hr h=>?_)
 ·obtain ⟨_,_,rfl,_⟩:=h;rfl
 have hu:=hr.units
 obtain ⟨n,b,rfl,n0,n1,U,b1,q⟩:=h
 have nB:n<M.sZ:=M.v_ (yw n1 (by decide))
 have lm:=kJ U b1 n0 n1
 have aiu:M.nd b n<=20:=M.Em U 20 n0 (by omega)
 refine ⟨_,(bh (nO (ak (aj hK T.aG xN hr.m (a1 (qv 1)))))
    (bh (bx (dh hK hu (qv 0) qi) (aL (bI (bG dY))) aP)
    (bh (bx (gP (ak (aj hK T.cJ G_g hr.m (a2 (qv 0) (qv 1))))) (aL (bI (bG (a1 (qv 0))))) aP)
    (bh (aU (i:=2) Ex.nd rfl lc (ak (aj hK T.cL G_d hr.m (a2 (qv 0) (qv 1)))))
    (bh (Rp (i:=3) Ex.nd rfl lc (N:=["part","number","base","parts","known","many","way"]) (k:=1) (a_.of (show g_ (aa s_M) ["number","base","parts","known","many","way"] _ ["part","number","base","parts","known","many","way"] 1 from ⟨by rfl,by decide,by decide,by rfl,by decide,by decide,by decide,by decide⟩)) rfl (fM hK (qv 2)) (λZ s H fp=>(d8 (i:=0) (by decide) (show List.Nodup (["part","number","base","parts","known","many","way"]:List Str) by decide) rfl (Or.inl rfl) (Or.inr rfl))) (λZ s H fp=>jw) (λZ s H fp=>(qv 0)) (λZ s H fp=>(oW nq (λ_=>.bl _))))
    (bh (aU (i:=4) Ex.nd rfl lc qi)
    (bh (gG (i:=5) Ex.nd rfl lc (aj hK T.cA G_k hr.m (aN (qv 0) (a3 (qv 4) (qv 2) (qv 3)))))
    (bh (Ih zL (aad (qv 5)) (bh (aai (i:=4) Ex.nd rfl lc qi)
    (aL (gG (i:=5) Ex.nd rfl lc (aj hK T.cA G_k hr.m (aN (qv 0) (a3 (qv 4) (qv 2) (qv 3))))))))
    (aL (mj (i:=5) (pv 5))))))))))),?_⟩
 refine aq λkk B=>?_
 simp only [Hg]
 refine ⟨U,b1,B _ ?_⟩
 refine aq λkk B=>?_
 simp only [R]
 refine eX (λc=>?_) (λc=>B _ ?_)
 ·subst c
  exact q [] (Tc U)
 refine aq λkk B=>?_
 simp only [R,S_g]
 refine ⟨n0,nB,U,b1,eX (λc=>?_) (λc2=>B _ ?_)⟩
 ·exact q [n] (YS U (by omega) c)
 have nd2:2<=M.nd b n:=by
  have h1:=M.Oe U (show 1<=n by omega)
  by_cases z:M.nd b n<=1
  ·exact absurd (h1.mp z) c2
  ·omega
 obtain ⟨sn,abK⟩:=M.oE U n0
 refine aq λkk B=>?_
 simp only [R,Zi]
 refine ⟨n0,n1,U,b1,B _ ?_⟩
 refine aq λkk B=>?_
 unfold Lz vQ
 simp only [R]
 obtain ⟨I,hI⟩:∃I:Nat->List Key × List D->aQ->Prop,I=(λj kd p=>kd=(((M.bA b n).take j).map Sum.inl,((M.bA b n).take j).map (λ_=>D.bl true))/\∃o:Option D,p=[Option.map Sl.d o,some (.d (.int n)),some (.d (.int b)),some (.d (.lst ((M.bA b n).map D.int))),none,none,none]):=⟨_,rfl⟩
 refine ⟨I,by rw [hI];exact ⟨rfl,none,rfl⟩,by rw [zd];omega,λj kd p hj hp=>?_,λkd p hp=>?_⟩
 ·rw [hI] at hp
  obtain ⟨rfl,o,rfl⟩:=hp
  rw [zd] at hj
  rw [getD_ints hj]
  have tk:(M.bA b n).take (j+1)=(M.bA b n).take j++[(M.bA b n).getD j 0]:=by
   rw [List.take_succ,zn,zg hj];rfl
  refine ⟨by rw [zd,yD];omega,?_⟩
  simp only [Q]
  refine ⟨λz=>?_,?_⟩
  ·obtain ⟨y,h1,h2⟩:=yb.mp z
   cases h2
   obtain ⟨i,hi,e⟩:=xv h1
   rw [yD] at hi
   rw [List.getElem_take] at e
   have:=tV (b:=b) (N:=n) (show i<j by omega) hj
   rw [zn,zg (show i<(M.bA b n).length by omega)] at this
   have e2:(M.bA b n)[i]=(M.bA b n).getD j 0:=e
   simp only [Option.getD_some] at this
   omega
  ·rw [hI]
   exact ⟨by rw [tk,yf,yf];rfl,some _,rfl⟩
 rw [hI] at hp
 obtain ⟨rfl,o,rfl⟩:=hp
 have ek:D.uf (((M.bA b n).take ((M.bA b n).map D.int).length).map Sum.inl) (((M.bA b n).take ((M.bA b n).map D.int).length).map (λ_=>D.bl true))=kn (M.bA b n):=by
  rw [zd,List.take_of_length_le (zx _)];rfl
 rw [ek]
 refine ⟨rfl,B _ ?_⟩
 refine aq λkk B=>?_
 simp only [R]
 refine B _ ?_
 refine aq λkk B=>?_
 simp only [R,S_k,Jf]
 have O:∀j,j<2->¬M.Sm b j n:=λj hj=>abK j (by omega)
 have go:∀(m:Nat) (v:Option Sl),(∀j,j<m->¬M.Sm b j n)->2<=m->m<=M.nd b n->((v=some (.d .non)/\¬M.Sm b m n)\/∃L:List Int,v=some (.own (L.map D.int))/\M.Gt b m n L)->kk [some (.d (.int n)),some (.d (.int b)),some (.d (.lst ((M.bA b n).map D.int))),some (.d (kn (M.bA b n))),some (.d (.int ((m:Nat):Int))),v]:=λm v h1 h2 h3 Y=>by
  refine B _ ?_
  obtain ⟨J,hJ⟩:∃J:aQ->Prop,J=(λp=>∃(m:Nat) (v:Option Sl),(∀j,j<m->¬M.Sm b j n)/\2<=m/\m<=M.nd b n/\((v=some (.d .non)/\¬M.Sm b m n)\/∃L:List Int,v=some (.own (L.map D.int))/\M.Gt b m n L)/\p=[some (.d (.int n)),some (.d (.int b)),some (.d (.lst ((M.bA b n).map D.int))),some (.d (kn (M.bA b n))),some (.d (.int ((m:Nat):Int))),v]):=⟨_,rfl⟩
  refine cV (kY J (λp=>match p[4]? with|some (some (Sl.d (D.int r)))=>30 - r.toNat|_=>0) (by rw [hJ];exact ⟨m,v,h1,h2,h3,Y,rfl⟩) ?_)
  intro p hp
  rw [hJ] at hp
  obtain ⟨m,v,h1,h2,h3,Y,rfl⟩:=hp
  rcases Y with ⟨rfl,Y⟩|⟨L,rfl,Y⟩
  ·simp only [Q,S_k,Jf]
   have m1:m+1<=M.nd b n:=by
    by_cases z:m=M.nd b n
    ·rw [z] at Y;exact absurd sn Y
    ·omega
   have nx:∀j,j<m+1->¬M.Sm b j n:=λj hj=>by
    by_cases z:j=m
    ·rw [z];exact Y
    ·exact h1 j (by omega)
   refine ⟨n0,yx _,n1,U,b1,by omega,by omega,by omega,λhn=>⟨?_,by omega⟩,λL gL=>⟨?_,by omega⟩⟩
   ·rw [hJ]
    exact ⟨m+1,_,nx,by omega,m1,.inl ⟨rfl,hn⟩,rfl⟩
   ·rw [hJ]
    exact ⟨m+1,_,nx,by omega,m1,.inr ⟨L,rfl,gL⟩,rfl⟩
  ·simp only [Q]
   have em:m=M.nd b n:=by
    by_cases z:m=M.nd b n
    ·exact z
    ·exact absurd Y.way.sm (abK m (by omega))
   subst em
   exact q L Y
 refine ⟨n0,yx _,n1,U,b1,λhn=>?_,λL gL=>?_⟩
 ·exact go 2 _ O (zx _) nd2 (.inl ⟨rfl,hn⟩)
 ·exact go 2 _ O (zx _) nd2 (.inr ⟨L,rfl,gL⟩)
def afm:eZ:=λas R=>∃n b:Int,as=[.d (.int n),.d (.int b)]/\0<=n/\n<M.sZ/\2<=b/\b<=36/\∀L,M.Fw b n L->R (.ro (L.map D.int)) as
theorem UT (T:Zs K mg cs):Ok P w base 6 T.qY afm:=by
 have xN:=jN P w base T
 have G_u:=Pb P w base T
 refine T.qY.F.gC BW (λas R h=>?_) (λcdv A outer s H E C as R Y U h=>?_)
 ·obtain ⟨_,_,rfl,_⟩:=h;rfl
 have hu:=U.units
 obtain ⟨n,b,rfl,n0,n1,O,b1,q⟩:=h
 refine ⟨_,(bh (nO (ak (aj Y T.aG xN U.m (a1 (qv 1)))))
    (bh (gG (i:=2) BW.nd rfl lc (bG dY))
    (bh (aU (i:=3) BW.nd rfl lc (qv 0))
    (bh (Ih zL (HX (qv 3) qi) (bh (aU (i:=4) BW.nd rfl lc (ak (aj Y T.fV G_u U.m (a2 (qv 3) (qv 1)))))
    (bh (nO (gn Y (pv 2) (a1 (qv 4))))
    (aL (W9 (i:=3) BW.nd rfl lc (qv 4))))))
    (aL (mj (i:=2) (pv 2))))))),?_⟩
 simp only [Hh]
 refine ⟨O,b1,?_⟩
 simp only [Ho]
 simp only [Ho]
 simp only [Ho]
 simp only [Ho]
 simp only [Ho]
 simp only [Ho]
 dsimp only
 refine cV ?_
 obtain ⟨I,Z⟩:∃I:aQ->Prop,I=(λp=>∃(ds:List Int) (B:Int) (v:Option D),p=[some (.d (.int n)),some (.d (.int b)),some (.own (ds.map D.int)),some (.d (.int B)),Option.map Sl.d v]/\0<=B/\B<=n/\B * 2 ^ ds.length<=n/\∀L,M.Fw b B L->M.Fw b n (ds++L)):=⟨_,rfl⟩
 refine kY I (λp=>match p[3]? with|some (some (Sl.d (D.int r)))=>r.toNat|_=>0) (by rw [Z];exact ⟨[],n,none,rfl,n0,yx _,by simp,λL h=>h⟩) ?_
 intro p hp
 rw [Z] at hp
 obtain ⟨ds,B,v,rfl,l0,l1,l2,l3⟩:=hp
 simp only [Hh]
 refine pK (λc=>?_) (λc=>?_)
 ·have len:ds.length<4000:=by
   have h1:=zB (show (1:Int)<=B by omega) (show (0:Int)<=2 ^ ds.length by have:=M.aC (show (0:Int)<2 by decide) ds.length;omega)
   have h2:(2:Int) ^ ds.length<2 ^ 4000:=by rw [<-M.lA];omega
   by_cases z:ds.length<4000
   ·exact z
   ·have:=M.bD (b:=2) (by decide) (show 4000<=ds.length by omega)
    exact absurd h2 (Int.not_lt.mpr this)
  simp only [Hh]
  refine ⟨l0,by omega,O,b1,λm J=>?_⟩
  have m1:=J.one O (show 1<=B by omega)
  have m2:=J.le
  have m3:=J.half O (show 1<=B by omega)
  simp only [Hh]
  refine ⟨by rw [zd];omega,?_⟩
  simp only [Hh]
  refine ⟨?_,show (B - m).toNat<B.toNat by omega⟩
  rw [Z]
  refine ⟨ds++[m],B - m,some (.int m),by rw [yf];rfl,by omega,by omega,?_,λL hL=>?_⟩
  ·rw [zj,yd,zJ,yG (2 ^ ds.length) 2,<-xH]
   have:=zB (show (B - m) * 2<=B by omega) (show (0:Int)<=2 ^ ds.length by have:=M.aC (show (0:Int)<2 by decide) ds.length;omega)
   omega
  ·rw [yH]
   exact l3 _ (.cons (by omega) J hL)
 ·have e:B=0:=by omega
  simp only [Hh]
  subst e
  have:=l3 [] .nil
  rw [zW] at this
  exact q _ this
def wt (ns:List Int):Str:=if ns=[] then "0" else Txt.join TX.sep (ns.map TX.tx)
def S_A:eZ:=λas R=>∃w:Str,as=[.d (.str w),.d (.int 41)]/\w.cps.all (·<128)=true/\w.length<=100000/\R (.rd (.bl (TX.wr w))) as
theorem abM:("0":Str).cps.toList=[48]:=by decide
theorem YT {c:Nat} (h:c≠48):((⟨#[c]⟩:Str)="0")=False:=eq_false λz=>by
 have:=yn (λs:Str=>s.cps.toList) z
 simp only [abM] at this
 simp at this
 exact h this
theorem YW {w:Str} (z:w.cps.all (·<128)=true) {i:Nat} (hi:i<w.cps.size):w.cps.getD i 0<128/\w.cps.getD i 0∈w.cps.toList:=by
 have n:w.cps.getD i 0∈w.cps.toList:=by
  rw [Array.getD_eq_getD_getElem?,Array.getElem?_eq_getElem hi]
  exact Array.getElem_mem_toList hi
 rw [<-xp,yC] at z
 exact ⟨yY (z _ n),n⟩
theorem abN (T:Zs K mg cs):Ok P w base 1 T.gZ S_A:=by
 obtain ⟨B,fP⟩:=T.fP
 refine T.gZ.F.gC abh (λas R h=>?_) (λcdv A outer s H E C as R hK hr h=>?_)
 ·obtain ⟨_,rfl,_⟩:=h;rfl
 have hu:=hr.units
 obtain ⟨w,rfl,wa,wl,q⟩:=h
 have ef:("0123456789":Str)=TX.Oj:=rfl
 have ll:=TX.cN w
 refine ⟨_,(bh (bx (iC (vK rF rF qi (Gh rfl T.fH (a1 (qv 0))) (qv 1))) (sr (oW nq (λ_=>.bl _))) aP)
    (bh (nR zL rfl (aaB (qv 0)) (aH (i:=2) abh.nd rfl lc) (aL (bx (LQ (qv 2) (oW (e_ (v:=.str "0123456789") rfl fP ⟨_,rfl⟩) (λ_=>.str _))) (sr (oW nq (λ_=>.bl _))) aP)))
    (sr (aae (HY hK hu (Gh rfl T.fH (a1 (qv 0))) qi) (T6 (adF hK hu (aaA (qv 0) qi (λ_ _=>rfl)) qs)))))),?_⟩
 refine aq λkk hkk=>?_
 simp only [R]
 refine ⟨by omega,?_⟩
 refine eX (λc1=>eX (λc2=>hkk _ ?_) (λc2=>?_)) (λc1=>?_)
 rotate_left
 ·have e:TX.wr w=false:=by
   unfold TX.wr
   rw [zY (show ¬w.length<=41 by omega)];simp
  rw [e] at q;exact q
 ·have e:TX.wr w=false:=by
   unfold TX.wr
   rw [zY (show ¬1<=w.length by omega)];simp
  rw [e] at q;exact q
 obtain ⟨I,Y⟩:∃I:Nat->aQ->Prop,I=(λ(i:Nat) p=>∃Z:Option D,p=[some (.d (.str w)),some (.d (.int 41)),Option.map Sl.d Z]/\∀j,j<i->48<=w.cps.getD j 0/\w.cps.getD j 0<=57):=⟨_,rfl⟩
 refine cV (sE (n:=w.cps.size) (item:=λi=>.str ⟨#[w.cps.getD i 0]⟩) (p1:=_) (λQ h=>by simp only [Q];exact ⟨wa,h⟩) I (by rw [Y];exact ⟨none,rfl,λj O=>absurd O (Nat.not_lt_zero _)⟩) ?_ ?_)
 ·intro i p hi J
  rw [Y] at J
  obtain ⟨Z,rfl,J⟩:=J
  obtain ⟨U,hm⟩:=YW wa hi
  by_cases dd:48<=w.cps.getD i 0/\w.cps.getD i 0<=57
  ·have fi:=TX.Yn _ dd
   simp only [Q,ef,fi]
   rw [Y]
   refine ⟨some _,rfl,λj O=>?_⟩
   by_cases y:j=i
   ·rw [y];exact dd
   ·exact J j (by omega)
  ·have fi:=TX.Sd _ U dd
   have e:TX.wr w=false:=by
    unfold TX.wr
    have:(w.cps.toList.all λc=>decide (48<=c) && decide (c<=57))=false:=by
     cases z:(w.cps.toList.all λc=>decide (48<=c) && decide (c<=57)) with
     | false=>rfl
     | true=>
      rw [yC] at z
      have:=z _ hm
      simp only [yo,yl] at this
      exact absurd this dd
    rw [this,Bool.and_false]
   rw [e] at q
   simp only [Q,ef,fi]
   exact q
 ·intro p J
  rw [Y] at J
  obtain ⟨Z,rfl,J⟩:=J
  have all:(w.cps.toList.all λc=>decide (48<=c) && decide (c<=57))=true:=by
   rw [yC]
   intro c hc
   obtain ⟨j,O,ej⟩:=xv hc
   have:=J j (by rw [xu] at O;exact O)
   rw [Array.getD_eq_getD_getElem?,Array.getElem?_eq_getElem (by rw [xu] at O;exact O)] at this
   simp at ej this
   rw [ej] at this
   simp [this]
  cases hl:w.cps.toList with
  | nil=>rw [hl] at ll;simp at ll;omega
  | cons c r=>
   have at0:iy w.cps.toList 0=some c:=by rw [hl];have h:iy (c::r) ((0:Nat):Int)=some c:=gU rfl;exact h
   have e:TX.wr w=(decide (w.length=1) || !decide (c=48)):=by
    unfold TX.wr
    rw [all,yj (show 1<=w.length by omega),yj (show w.length<=41 by omega),hl]
    by_cases y:c=48<;>simp [y]
   simp only [Q,at0]
   rw [e] at q
   refine ⟨wl,eX (λc3=>?_) (λc3=>⟨wl,?_⟩)⟩
   ·rw [yj (show w.length=1 by omega),Bool.true_or] at q;exact q
   ·rw [zY (show ¬w.length=1 by omega),Bool.false_or] at q
    have ec:decide ((⟨#[c]⟩:Str)=("0":Str))=decide (c=48):=by
     by_cases y:c=48
     ·have:(⟨#[c]⟩:Str)=("0":Str):=TX.tK (by rw [abM,y])
      rw [yj this,yj y]
     ·have:=YT y
      rw [zY (by rw [this];exact id),zY y]
    have ec2:(Str.ofString "0")=("0":Str):=rfl
    rw [ec2,ec]
    exact q
theorem afn:(" + ":Str)=TX.sep:=rfl
theorem tW (ns:List Int):(List.range ns.length).map (λi=>D.str (TX.tx (ns.getD i 0)))=(ns.map TX.tx).map D.str:=by
 rw [List.map_map]
 have e:=yn (List.map (D.str ∘ TX.tx)) (M.range_getD ns)
 rw [List.map_map] at e
 exact e
structure Wz (ns:List Int):Prop where
 jH:∀n∈ns,1<=n/\n<10 ^ 50
 few:ns.length<=20000
theorem Wz.at {ns:List Int} (h:Wz ns) {i:Nat} (hi:i<ns.length):TX.Nz (ns.getD i 0):=by
 have:1<=ns.getD i 0/\ns.getD i 0<10 ^ 50:=h.jH _ (by rw [zn,zg hi];exact yh hi)
 exact TX.eU (by omega) this.2
theorem oR {sp:Str} {ns:List Int} (I:sp.length<=5) (h:∀n∈ns,0<=n/\n<10 ^ 50) (l:ns.length<=20000):JoinOk sp (ns.map TX.tx)=true:=by
 have f:=StrLaws.joinFits (sep:=sp) (texts:=ns.map TX.tx) (B:=50) (λy D=>by
  obtain ⟨n,z,rfl⟩:=yb.mp D
  exact (TX.eU (h n z).1 (h n z).2).len) (by
  rw [zd]
  have:ns.length * sp.length<=20000 * 5:=Nat.mul_le_mul l I
  omega)
 unfold JoinOk
 rw [f];rfl
def S_E:eZ:=λas R=>∃ns:List Int,as=[.d (.lst (ns.map D.int))]/\Wz ns/\R (.rd (.str (wt ns))) as
theorem Td (T:Zs K mg cs):Ok P w base 1 T.fW S_E:=by
 obtain ⟨B,iR⟩:=T.iR
 refine T.fW.F.gC aeM (λas R h=>?_) (λcdv A outer s H E C as R O hr h=>?_)
 ·obtain ⟨_,rfl,_⟩:=h;rfl
 have Y:=hr.units
 obtain ⟨ns,rfl,I,q⟩:=h
 have few:=I.few
 refine ⟨_,(bh (bx (dh O Y (fc O rfl T.fH (a1 (qv 0))) qi) (sr (oW (e_ (v:=.str "0") rfl iR ⟨_,rfl⟩) (λ_=>.str _))) aP)
    (sr (sS O qs (a1 (ak (mF (N:=["part","way"]) (k:=1) (a_.of (show g_ (aa s_E) ["way"] _ ["part","way"] 1 from ⟨by rfl,by decide,by decide,by rfl,by decide,by decide,by decide,by decide⟩)) rfl (fM O (qv 0)) (λZ s H fp=>(d8 (i:=0) (by decide) (show List.Nodup (["part","way"]:List Str) by decide) rfl (Or.inl rfl) (Or.inr rfl))) (λZ s H fp=>jw) (λZ s H fp=>(bM rfl T.dH (a1 (qv 0)))))))))),?_⟩
 refine aq λkk U=>?_
 simp only [R,zd]
 refine eX (λc=>?_) (λc=>U _ ?_)
 ·have e:ns=[]:=List.length_eq_zero_iff.mp (by omega)
  subst e
  exact q
 have ne:ns≠[]:=λz=>c (by rw [z];rfl)
 rw [show wt ns=Txt.join TX.sep (ns.map TX.tx) by unfold wt;rw [zi ne]] at q
 simp only [S]
 refine comp_map (n:=(ns.map D.int).length) (item:=λi=>(ns.map D.int).getD i .non) (p1:=_) (λQ h=>by simp only [Q];exact h) (by rw [zd];omega) (λi=>.str (TX.tx (ns.getD i 0))) (λi R hi h=>?_) ?_
 ·rw [zd] at hi
  rw [getD_ints hi] at h ⊢
  have J:=I.at hi
  simp only [Q]
  exact ⟨J.lg,h⟩
 rw [zd,tW]
 simp only [Q]
 exact ⟨oR (by decide) (λn J=>⟨by have:=(I.jH n J).1;omega,(I.jH n J).2⟩) few,q⟩
def S_f:eZ:=λas R=>∃(w:Str) (z n:Int),as=[.d (.str w),.d (.int z)]/\w.cps.all (·<128)=true/\w.length<=100000/\TX.num w z=some n/\R (.rd (.int n)) as
theorem abO (T:Zs K mg cs):Ok P w base 2 T.cI S_f:=by
 have D:=abN P w base T
 obtain ⟨z,cO⟩:=T.cO
 refine T.cI.F.gC Sw (λas R h=>?_) (λcdv A outer s H E C as R hK U h=>?_)
 ·obtain ⟨_,_,_,rfl,_⟩:=h;rfl
 have hu:=U.units
 obtain ⟨w,bd,n,rfl,wa,Z,hn,q⟩:=h
 obtain ⟨J,n1,n2,rfl⟩:=TX.iw hn
 have Y:=TX.Ut J n1
 have I:=TX.eU J (xd n1 (by decide))
 refine ⟨_,(bh (bx (iC (gP (ak (aj hK T.gZ D U.m (a2 (qv 0) (oW (e_ (v:=.int 41) rfl cO ⟨_,rfl⟩) (λ_=>.int _))))))) (aL pD) aP)
    (bh (aU (i:=2) Sw.nd rfl lc (nY rfl T.jK (a1 (qv 0))))
    (bh (bx (HX (qv 2) (qv 1)) (aL pD) aP)
    (sr (qv 2))))),?_⟩
 refine aq λO B=>?_
 simp only [R,S_A,Y]
 refine ⟨wa,Z,B _ ?_⟩
 refine aq λO B=>?_
 simp only [R]
 refine ⟨_,I.rd,by have:=I.len;omega,B _ ?_⟩
 refine aq λO B=>?_
 simp only [R]
 rw [zi (by omega)]
 refine B _ ?_
 simp only [Q]
 exact q
def X_f (cs:XA):Ik:=λas z=>∃(w:Str) (n:Int),as=[.d (.str w),.d (.int n)]/\w.cps.all (·<128)=true/\w.length<=100000/\TX.num w n=none/\z=cs.bH
theorem abP (T:Zs K mg cs):YG P w base 2 T.cI (X_f cs):=by
 have U:=abN P w base T
 obtain ⟨B,cO⟩:=T.cO
 refine T.cI.F.Zh Sw (λas Cl h=>?_) (λcdv A outer s H E C as Cl XE hK hr h O lk lr=>?_)
 ·obtain ⟨_,_,rfl,_⟩:=h;exact ⟨rfl,BL [_,_]⟩
 have hu:=hr.units
 obtain ⟨w,bd,rfl,Z,Y,J,rfl⟩:=h
 subst O
 refine ⟨_,(bh (bx (iC (gP (ak (aj hK T.gZ U hr.m (a2 (qv 0) (oW (e_ (v:=.int 41) rfl cO ⟨_,rfl⟩) (λ_=>.int _))))))) (aL (vV T.eV rfl lr (a1 qs))) aP)
    (bh (aU (i:=2) Sw.nd rfl lc (nY rfl T.jK (a1 (qv 0))))
    (bh (bx (HX (qv 2) (qv 1)) (aL (vV T.eV rfl lr (a1 qs))) aP)
    (sr (qv 2))))),?_⟩
 refine aq λkk D=>?_
 by_cases I:TX.wr w=true
 ·obtain ⟨n,n0,n1,rfl⟩:=TX.Us I
  have nz:=TX.eU n0 (xd n1 (by decide))
  rw [TX.Ol n0 n1] at J
  have gt:¬n<=bd:=λz=>by rw [zm z] at J;cases J
  simp only [R,S_A,I]
  refine ⟨Z,Y,D _ ?_⟩
  refine aq λkk D=>?_
  simp only [R]
  refine ⟨_,nz.rd,by have:=nz.len;omega,D _ ?_⟩
  refine aq λkk D=>?_
  simp only [R]
  rw [zm (by omega)];trivial
 ·have wf:TX.wr w=false:=by simpa using I
  simp only [R,S_A,wf]
  exact ⟨Z,Y⟩
theorem Cg (t:Str):Txt.split t TX.mQ≠[]:=by
 unfold Txt.split
 split
 ·simp
 ·split
  ·simp
  ·unfold Builtin.Str.partsBetween
   intro z
   have:=yn List.length z
   simp at this
theorem EY {K:PySem.W.Frag} {w:Str}:∀{n:List (Str × Addr)} {B:List (Str × List Int)},O5 K n B->PyProof.Rows.KTD.inKeys w n=(B.lookup w).isSome/\∀ns,B.lookup w=some ns->∃a,PyProof.Rows.KTD.datumAt w n=some a/\Qd K a ns
 | _,_,.nil=>⟨rfl,λns h=>by cases h⟩
 | _,_,.cons (x:=x) (a:=a) (ns:=ns) hk r=>by
  obtain ⟨I,D⟩:=EY (w:=w) r
  unfold PyProof.Rows.KTD.inKeys PyProof.Rows.KTD.datumAt
  rw [zV]
  by_cases z:w=x
  ·subst z
   refine ⟨by simp,λns h=>⟨a,by simp,?_⟩⟩
   simp at h
   rw [<-h];exact hk
  ·have:(w == x)=false:=by simpa using z
   rw [this,zY z,zi ym]
   exact ⟨by simpa using I,D⟩
theorem wX {ws:List Str} {i:Nat} (hi:i<ws.length):(ws.map D.str).getD i .non=.str (ws.getD i Str.empty)/\ws.getD i Str.empty∈ws:=by
 refine ⟨?_,?_⟩
 ·rw [zn,zO,zn,zg hi];rfl
 ·rw [zn,zg hi];exact yh hi
theorem Pq:(" ":Str)=TX.mQ:=rfl
def S_e:eZ:=λas R=>∃(w f:Str) (ns:List Int),as=[.d (.str w)]/\w.cps.all (·<128)=true/\w.length<=50000/\TX.rowOf w=some (f,ns)/\R (.rd (.tup [.str f,.lst (ns.map D.int)])) as
theorem YX (T:Zs K mg cs):Ok P w base 3 T.b_ S_e:=by
 have G_f:=abO P w base T
 refine T.b_.F.gC BV (λas R h=>?_) (λcdv A outer s H E C as R J hr h=>?_)
 ·obtain ⟨_,_,_,rfl,_⟩:=h;rfl
 have hu:=hr.units
 obtain ⟨w,f,ns,rfl,wa,wl,B,q⟩:=h
 have wm:=TX.Om w
 have wo:∀x∈Txt.split w TX.mQ,x.cps.all (·<128)=true/\x.length<=w.length:=λx hx=>TX.Uv wa hx
 unfold TX.rowOf at B
 have kB:=T.bB
 refine ⟨_,(bh (bx (iC (gP (vM (T:="str") J (by first|exact .inl rfl|exact .inr (.inl rfl)|exact .inr (.inr (.inl rfl))|exact .inr (.inr (.inr (.inl rfl)))|exact .inr (.inr (.inr (.inr rfl)))) rfl T.gW (a2 (qv 0) (oW (qG (v:=.ty "str") rfl T.dH (by kernel_rfl) rfl) (λ_=>.atom _)))))) (aL pD) aP)
    (bh (fj (ak (vU J (qv 0) (a1 qs))) (Nh J rfl (aH (i:=1) BV.nd rfl lc) (aH (i:=2) BV.nd rfl lc)))
    (bh (bx (Ng T.kB rfl T.mB (qv 1)) (aL pD) aP)
    (bh (aU (i:=3) BV.nd rfl lc (Bm T.kB rfl T.mB (qv 1) (λ_ _=>rfl)))
    (bh (bx (Ws J hu (fc J rfl T.fH (a1 (qv 2))) (Gn rfl T.fH (a1 (qv 3)))) (aL pD) aP)
    (sr (eO (a2 (qv 1) (ak (mF (N:=["word","bound","words","first","others","bounds"]) (k:=2) (a_.of (show g_ (aa s_e) ["words","first","others","bounds"] _ ["word","bound","words","first","others","bounds"] 2 from ⟨by rfl,by decide,by decide,by rfl,by decide,by decide,by decide,by decide⟩)) rfl (M_ J rfl T.Uz (a2 (qv 2) (qv 3))) (λZ s H fp=>(Lp (n:=2) J rfl (nU (d8 (i:=0) (by decide) (show List.Nodup (["word","bound","words","first","others","bounds"]:List Str) by decide) rfl (Or.inl rfl) (Or.inr rfl)) (nU (d8 (i:=1) (by decide) (show List.Nodup (["word","bound","words","first","others","bounds"]:List Str) by decide) rfl (Or.inl rfl) (Or.inr rfl)) Gb)))) (λZ s H fp=>jw) (λZ s H fp=>(ak (aj J T.cI G_f hr.m (a2 (qv 0) (qv 1))))))))))))))),?_⟩
 refine aq λO I=>?_
 simp only [R]
 refine I _ ?_
 refine aq λO I=>?_
 simp only [R,Pq]
 refine ⟨by omega,by omega,?_⟩
 cases hs:Txt.split w TX.mQ with
 | nil=>exact absurd hs (Cg w)
 | cons g os=>
  rw [hs] at B wm wo
  simp only at B
  cases Y:TX.BT.lookup g with
  | none=>rw [Y] at B;cases B
  | some bs=>
   rw [Y] at B
   simp only [xG] at B
   cases U:TX.nums os bs with
   | none=>rw [U] at B;cases B
   | some ms=>
    rw [U] at B
    cases (B)
    obtain ⟨k1,k2⟩:=EY (w:=f) kB
    rw [Y] at k1
    obtain ⟨a,ha,hk⟩:=k2 bs Y
    obtain ⟨l1,l2⟩:=TX.j_ U
    refine ⟨_,_,rfl,?_⟩
    simp only [R]
    refine I _ ?_
    refine aq λO I=>?_
    simp only [R,k1]
    refine I _ ?_
    refine aq λO I=>?_
    simp only [R,ha]
    refine I _ ?_
    refine aq λO I=>?_
    simp only [R,zd]
    refine ⟨bs,hk,?_⟩
    rw [zm (by rw [l1])]
    refine I _ ?_
    simp only [S]
    simp only [zH] at wm
    refine sY (n:=(os.map D.str).length) (m:=100000) (a:=λi=>(os.map D.str).getD i .non) (b:=λi=>.int (bs.getD i 0)) (p1:=_) (λQ h=>by
     simp only [Q]
     exact ⟨bs,hk,by rw [zd];exact l1,h⟩) (by rw [zd];omega) (λi=>.int (ns.getD i 0)) (λi R hi _ h=>?_) (λR z=>by rw [zd] at z;omega) (λ_=>?_)
    ·rw [zd] at hi
     obtain ⟨e1,e2⟩:=wX hi
     rw [e1] at h ⊢
     obtain ⟨x1,x2⟩:=wo _ (zp _ e2)
     simp only [Q,S_f]
     exact ⟨x1,by omega,_,TX.iJ U i hi,h⟩
    rw [zd,show (List.range os.length).map (λi=>D.int (ns.getD i 0))=ns.map D.int by
     have:=yn (List.map D.int) (M.range_getD ns)
     rw [List.map_map,l2,<-l1] at this
     exact this]
    simp only [Q]
    exact q
def X_e (cs:XA):Ik:=λas n=>∃d:D,as=[.d d]/\(Av "str" d=some false\/∃w:Str,d=.str w/\w.cps.all (·<128)=true/\w.length<=50000/\TX.rowOf w=none)/\n=cs.bH
theorem abQ (T:Zs K mg cs):YG P w base 3 T.b_ (X_e cs):=by
 have O:=abP P w base T
 have G_f:=abO P w base T
 refine T.b_.F.Xy (S:=λ_=>X_e cs) BV (λ_ as Cl h=>?_) (λcdv A outer s H E C as Cl XE J _ _ hr h hXE lk lr ln=>?_)
 ·obtain ⟨_,rfl,_⟩:=h;exact ⟨rfl,BL [_]⟩
 have hu:=hr.units
 obtain ⟨d,rfl,hd,rfl⟩:=h
 subst hXE
 have kB:=T.bB
 refine ⟨_,(bh (bx (iC (gP (vM (T:="str") J (by first|exact .inl rfl|exact .inr (.inl rfl)|exact .inr (.inr (.inl rfl))|exact .inr (.inr (.inr (.inl rfl)))|exact .inr (.inr (.inr (.inr rfl)))) rfl T.gW (a2 (qv 0) (oW (qG (v:=.ty "str") rfl T.dH (by kernel_rfl) rfl) (λ_=>.atom _)))))) (aL (vV T.eV rfl lr (a1 qs))) aP)
    (bh (fj (ak (vU J (qv 0) (a1 qs))) (Nh J rfl (aH (i:=1) BV.nd rfl lc) (aH (i:=2) BV.nd rfl lc)))
    (bh (bx (Ng T.kB rfl T.mB (qv 1)) (aL (vV T.eV rfl lr (a1 qs))) aP)
    (bh (aU (i:=3) BV.nd rfl lc (Bm T.kB rfl T.mB (qv 1) (λ_ _=>rfl)))
    (bh (bx (Ws J hu (fc J rfl T.fH (a1 (qv 2))) (Gn rfl T.fH (a1 (qv 3)))) (aL (vV T.eV rfl lr (a1 qs))) aP)
    (sr (eO (a2 (qv 1) (ak (RL (N:=["word","bound","words","first","others","bounds"]) (k:=2) (a_.of (show g_ (aa s_e) ["words","first","others","bounds"] _ ["word","bound","words","first","others","bounds"] 2 from ⟨by rfl,by decide,by decide,by rfl,by decide,by decide,by decide,by decide⟩)) rfl ln (M_ J rfl T.Uz (a2 (qv 2) (qv 3))) (λZ s H fp E=>(Lp (n:=2) J rfl (nU (d8 (i:=0) (by decide) (show List.Nodup (["word","bound","words","first","others","bounds"]:List Str) by decide) rfl (Or.inl rfl) (Or.inr rfl)) (nU (d8 (i:=1) (by decide) (show List.Nodup (["word","bound","words","first","others","bounds"]:List Str) by decide) rfl (Or.inl rfl) (Or.inr rfl)) Gb)))) (λZ s H fp E=>jw) (λZ s H fp E lk=>(ak (aaF (aj J T.cI G_f hr.m (a2 (qv 0) (qv 1))) (k_ J T.cI O hr.m lk (a2 (qv 0) (qv 1)))))))))))))))),?_⟩
 refine aq λU B=>?_
 rcases hd with hd|⟨w,rfl,wa,wl,I⟩
 ·simp only [R]
  exact ⟨_,hd,by rw [zm rfl];trivial⟩
 have wm:=TX.Om w
 have wo:∀x∈Txt.split w TX.mQ,x.cps.all (·<128)=true/\x.length<=w.length:=λx hx=>TX.Uv wa hx
 unfold TX.rowOf at I
 simp only [R]
 refine B _ ?_
 refine aq λU B=>?_
 simp only [R,Pq]
 refine ⟨by omega,by omega,?_⟩
 cases hs:Txt.split w TX.mQ with
 | nil=>exact absurd hs (Cg w)
 | cons g os=>
  rw [hs] at I wm wo
  simp only [zH] at I wm
  refine ⟨_,_,rfl,?_⟩
  simp only [R]
  refine B _ ?_
  obtain ⟨k1,k2⟩:=EY (w:=g) kB
  refine aq λU B=>?_
  cases hb:TX.BT.lookup g with
  | none=>
   rw [hb] at k1
   have k1:PyProof.Rows.KTD.inKeys g T.tB=false:=k1
   simp only [R,k1]
  | some bs=>
   rw [hb] at k1 I
   obtain ⟨a,ha,hk⟩:=k2 bs hb
   simp only [xG] at I
   have hn:TX.nums os bs=none:=by
    cases hn:TX.nums os bs with
    | none=>rfl
    | some ms=>rw [hn] at I;cases I
   simp only [R,k1]
   refine B _ ?_
   refine aq λU B=>?_
   simp only [R,ha]
   refine B _ ?_
   refine aq λU B=>?_
   simp only [R,zd]
   refine ⟨bs,hk,eX (λc=>B _ ?_) (λc=>trivial)⟩
   have l1:os.length=bs.length:=by omega
   obtain ⟨m,m1,m2,m3⟩:=TX.GQ l1 hn
   simp only [S]
   refine sY (n:=(os.map D.str).length) (m:=m) (a:=λi=>(os.map D.str).getD i .non) (b:=λi=>.int (bs.getD i 0)) (p1:=_) (λQ h=>by
    simp only [Q]
    exact ⟨bs,hk,by rw [zd];exact l1,h⟩) (by rw [zd];omega) (λi=>.int ((TX.num (os.getD i Str.empty) (bs.getD i 0)).getD 0)) (λi R hi hm h=>?_) (λR z=>?_) (λz=>by rw [zd] at z;omega)
   ·rw [zd] at hi
    obtain ⟨e1,e2⟩:=wX hi
    rw [e1] at h ⊢
    obtain ⟨Y,x2⟩:=wo _ (zp _ e2)
    cases hv:TX.num (os.getD i Str.empty) (bs.getD i 0) with
    | none=>exact absurd hv (m3 i hm)
    | some v=>
     rw [hv] at h
     simp only [Q,S_f]
     exact .inl ⟨Y,by omega,v,hv,h⟩
   ·obtain ⟨e1,e2⟩:=wX m1
    rw [e1]
    obtain ⟨Y,x2⟩:=wo _ (zp _ e2)
    simp only [Q,X_f]
    exact .inr ⟨Y,by omega,m2⟩
theorem uU {n:Int} (h0:0<=n) (h:n<2 ^ 1100):n.natAbs.log2<1920:=by
 obtain ⟨m,rfl⟩:=zR h0
 have B:m<2 ^ 1100:=by exact_mod_cast h
 by_cases z:m=0
 ·subst z;decide
 ·exact zI ((Nat.log2_lt z).mpr B) (by decide)
theorem lQ {n:Int} (h:n<=10 ^ 40):n<M.sZ/\n<2 ^ 1100:=by
 have h1:(10:Int) ^ 40<M.sZ:=by unfold M.sZ;decide
 have h2:(10:Int) ^ 40<2 ^ 1100:=by decide
 omega
theorem Pr {k:Nat} {ti:t6} {g:rZ} {z:m9} {B:TQ} {Q:Rt->aQ->Prop} {p:aQ} (h:ti p λn item p1=>nW k (λ_ Q=>Q n item p1) g z B p1 Q):nW k ti g z B p Q:=h
def S_H:eZ:=λas R=>∃n b:Int,as=[.d (.int b),.d (.lst [.int n])]/\2<=b/\b<=36/\0<=n/\n<=10 ^ 40/\R (.rd (.str (Txt.join TX.mQ ((M.fg b n).map TX.tx)))) as
theorem afr (T:Zs K mg cs):Ok P w base 4 T.bJ S_H:=by
 have U:=O9 P w base T
 refine T.bJ.F.gC aeF (λas R h=>?_) (λcdv A outer s H E C as R z hr h=>?_)
 ·obtain ⟨_,_,rfl,_⟩:=h;rfl
 have hu:=hr.units
 obtain ⟨n,b,rfl,O,J,B,n1,q⟩:=h
 obtain ⟨n2,_⟩:=lQ n1
 have I:=M.d9 O B
 have fl:=M.Ej O B n2
 refine ⟨_,(sr (sS z qs (a1 (ak (mF (N:=["figure","base","numbers"]) (k:=1) (a_.of (show g_ (aa s_H) ["base","numbers"] _ ["figure","base","numbers"] 1 from ⟨by rfl,by decide,by decide,by rfl,by decide,by decide,by decide,by decide⟩)) rfl (fM z (ak (aj z T.fU U hr.m (a2 (qx z (qv 1)) (qv 0))))) (λZ s H fp=>(d8 (i:=0) (by decide) (show List.Nodup (["figure","base","numbers"]:List Str) by decide) rfl (Or.inl rfl) (Or.inr rfl))) (λZ s H fp=>jw) (λZ s H fp=>(bM rfl T.dH (a1 (qv 0))))))))),?_⟩
 simp only [S]
 refine Pr ?_
 simp only [Hh]
 refine ⟨B,n2,O,J,?_⟩
 simp only [Hh]
 have fr:∀i,i<(M.fg b n).length->0<=(M.fg b n).getD i 0/\(M.fg b n).getD i 0<10 ^ 50:=λi hi=>by
  have:=I.jH ((M.fg b n).getD i 0) (by rw [zn,zg hi];exact yh hi)
  exact ⟨this.1,Int.lt_of_lt_of_le this.2 (yw J (by decide))⟩
 refine comp_map (n:=((M.fg b n).map D.int).length) (item:=λi=>((M.fg b n).map D.int).getD i .non) (p1:=_) (λQ h=>h) (by rw [zd];omega) (λi=>.str (TX.tx ((M.fg b n).getD i 0))) (λi R hi h=>?_) ?_
 ·rw [zd] at hi
  rw [getD_ints hi] at h ⊢
  simp only [Hh]
  exact ⟨(TX.eU (fr i hi).1 (fr i hi).2).lg,h⟩
 rw [zd,tW]
 simp only [Hh]
 exact ⟨oR (by decide) (λx Y=>⟨(I.jH x Y).1,Int.lt_of_lt_of_le (I.jH x Y).2 (yw J (by decide))⟩) (by omega),q⟩
def abR:eZ:=λas R=>∃n b:Int,as=[.d (.int b),.d (.lst [.int n])]/\2<=b/\b<=36/\0<=n/\n<=10 ^ 40/\R (.rd (.str (if M.bQ b n=true then "yes" else "no"))) as
theorem abS (T:Zs K mg cs):Ok P w base 5 T.dI abR:=by
 have B:=O_ P w base T
 refine T.dI.F.gC abk (λas R h=>?_) (λO A outer s H E C as R I D h=>?_)
 ·obtain ⟨_,_,rfl,_⟩:=h;rfl
 have Z:=D.units
 obtain ⟨n,b,rfl,Y,U,J,n1,q⟩:=h
 obtain ⟨n2,_⟩:=lQ n1
 refine ⟨_,(sr (jt (gP (ak (aj I T.cJ B D.m (a2 (qx I (qv 1)) (qv 0))))) qs qs)),?_⟩
 simp only [Hh]
 refine ⟨J,n2,Y,U,?_⟩
 simp only [Hh]
 refine RX (λz=>?_) (λz=>?_)
 ·simp only [Hh]
  rw [zm z] at q;exact q
 ·simp only [Hh]
  rw [zi (by rw [z];decide)] at q;exact q
def S_O:eZ:=λas R=>∃n b:Int,as=[.d (.int b),.d (.lst [.int n])]/\2<=b/\b<=36/\0<=n/\n<=10 ^ 40/\R (.rd (.str (TX.tx (M.the (M.AM b n))))) as
theorem afs (T:Zs K mg cs):Ok P w base 6 T.cj S_O:=by
 have B:=Pb P w base T
 refine T.cj.F.gC aeG (λas R h=>?_) (λO A outer s H E C as R I D h=>?_)
 ·obtain ⟨_,_,rfl,_⟩:=h;rfl
 have Z:=D.units
 obtain ⟨n,b,rfl,Y,U,J,n1,q⟩:=h
 obtain ⟨n2,n3⟩:=lQ n1
 refine ⟨_,(sr (bM rfl T.dH (a1 (ak (aj I T.fV B D.m (a2 (qx I (qv 1)) (qv 0))))))),?_⟩
 simp only [Hh]
 refine ⟨J,n2,Y,U,λm z=>?_⟩
 simp only [Hh]
 refine ⟨uU z.mp.1 (Int.lt_of_le_of_lt z.le n3),?_⟩
 simp only [Hh]
 rw [M.iQ z λ_ h=>h.uniq z] at q;exact q
def S_R:eZ:=λas R=>∃n b:Int,as=[.d (.int b),.d (.lst [.int n])]/\2<=b/\b<=36/\0<=n/\n<=10 ^ 40/\R (.rd (.str (TX.tx (M.the (M.AL b n))))) as
theorem UW {b n m:Int} (B:2<=b) (D:b<=36) (h0:0<=n) (h:n<=10 ^ 40) (I:M.AL b n m):m<2 ^ 1100:=by
 have h1:=I.bot _ (M.j8 B (M.ln b n)) (by have:=M.iH B h0;omega)
 have e:(36:Int) * 10 ^ 40<2 ^ 1100:=by decide
 by_cases z:1<=n
 ·have h2:=M.gQ B z
  have J:b ^ (M.ln b n)=b ^ (M.ln b n - 1) * b:=by
   have:=M.eF B h0
   rw [<-zJ,Nat.succ_eq_add_one,Nat.sub_add_cancel this]
  have p:=M.aC (show 0<b by omega) (M.ln b n - 1)
  have O:b ^ (M.ln b n - 1) * b<=n * 36:=yK h2 D (by omega) h0
  rw [J] at h1
  omega
 ·have:n=0:=by omega
  subst this
  have:=I.bot 0 (M.fD (by decide) (by omega)) (by decide)
  omega
theorem aft (T:Zs K mg cs):Ok P w base 6 T.cu S_R:=by
 have B:=abz P w base T
 refine T.cu.F.gC aeH (λas R h=>?_) (λY A outer s H E C as R J I h=>?_)
 ·obtain ⟨_,_,rfl,_⟩:=h;rfl
 have Z:=I.units
 obtain ⟨n,b,rfl,U,O,D,n1,q⟩:=h
 obtain ⟨n2,n3⟩:=lQ n1
 refine ⟨_,(sr (bM rfl T.dH (a1 (ak (aj J T.jE B I.m (a2 (qx J (qv 1)) (qv 0))))))),?_⟩
 simp only [Hh]
 refine ⟨D,n2,U,O,λm z=>?_⟩
 simp only [Hh]
 refine ⟨uU z.mp.1 (UW U O D n1 z),?_⟩
 simp only [Hh]
 rw [M.iQ z λ_ h=>h.uniq z] at q;exact q
def S_Q:eZ:=λas R=>∃n b:Int,as=[.d (.int b),.d (.lst [.int n])]/\2<=b/\b<=36/\0<=n/\n<=10 ^ 40/\R (.rd (.str (TX.tx (M.cnt b n)))) as
theorem E_ (b n:Int):0<=M.cnt b n:=by rw [<-M.ou];omega
theorem Pu {b n:Int} (B:2<=b) (D:b<=36) (h0:0<=n) (h:n<=10 ^ 40):0<=M.cnt b n/\M.cnt b n<10 ^ 24:=by
 obtain ⟨m,z⟩:=M.Gu B n.toNat
 rw [show ((n.toNat:Nat):Int)=n by omega] at z
 have e:=M.mO B h0 z
 have:=M.N_ B D z.mp (yw z.le h)
 rw [e] at this
 exact ⟨E_ b n,this⟩
theorem afu (T:Zs K mg cs):Ok P w base 7 T.cz S_Q:=by
 have z:=abB P w base T
 refine T.cz.F.gC aeK (λas R h=>?_) (λU A outer s H E C as R I D h=>?_)
 ·obtain ⟨_,_,rfl,_⟩:=h;rfl
 have Z:=D.units
 obtain ⟨n,b,rfl,O,J,B,n1,q⟩:=h
 obtain ⟨n2,n3⟩:=lQ n1
 obtain ⟨c0,Y⟩:=Pu O J B n1
 refine ⟨_,(sr (bM rfl T.dH (a1 (ak (aj I T.lE z D.m (a2 (qx I (qv 1)) (qv 0))))))),?_⟩
 simp only [Hh]
 refine ⟨B,n2,O,J,?_⟩
 simp only [Hh]
 refine ⟨(TX.eU c0 (xd Y (by decide))).lg,?_⟩
 simp only [Hh]
 exact q
def abT:eZ:=λas R=>∃n b:Int,as=[.d (.int b),.d (.lst [.int n])]/\2<=b/\b<=36/\0<=n/\n<=10 ^ 20/\R (.rd (.str (TX.tx (M.the λm=>M.Mp b m/\M.pl b m=n)))) as
theorem abU (T:Zs K mg cs):Ok P w base 4 T.dM abT:=by
 have B:=abC P w base T
 refine T.dM.F.gC abm (λas R h=>?_) (λZ A outer s H E C as R J D h=>?_)
 ·obtain ⟨_,_,rfl,_⟩:=h;rfl
 have hu:=D.units
 obtain ⟨n,b,rfl,O,b1,U,n1,q⟩:=h
 refine ⟨_,(sr (bM rfl T.dH (a1 (ak (aj J T.gf B D.m (a2 (qx J (qv 1)) (qv 0))))))),?_⟩
 simp only [Hh]
 refine ⟨U,by omega,O,b1,λm z I Y=>?_⟩
 simp only [Hh]
 refine ⟨uU z.1 Y,?_⟩
 simp only [Hh]
 rw [M.iQ ⟨z,I⟩ λ_ h=>M.Oo O h.1 z (h.2.trans I.symm)] at q;exact q
def S_t:eZ:=λas R=>∃n b:Int,as=[.d (.int b),.d (.lst [.int n])]/\2<=b/\b<=36/\0<=n/\n<=10 ^ 40/\M.bQ b n=true/\R (.rd (.str (TX.tx (M.pl b n)))) as
theorem afv (T:Zs K mg cs):Ok P w base 6 T.bf S_t:=by
 have O:=YK P w base T
 refine T.bf.F.gC abn (λas R h=>?_) (λcdv A outer s H E C as R Y U h=>?_)
 ·obtain ⟨_,_,rfl,_⟩:=h;rfl
 have hu:=U.units
 obtain ⟨n,b,rfl,J,Z,z,n1,I,q⟩:=h
 obtain ⟨n2,n3⟩:=lQ n1
 have B:=M.N_ J Z ⟨z,I⟩ n1
 have D:0<=M.pl b n:=by rw [M.mO J z (M.AM.self ⟨z,I⟩)];exact E_ b n
 refine ⟨_,(sr (bM rfl T.dH (a1 (ak (aj Y T.dJ O U.m (a2 (qx Y (qv 1)) (qv 0))))))),?_⟩
 simp only [Hh]
 refine ⟨⟨z,I⟩,n2,J,Z,?_⟩
 simp only [Hh]
 refine ⟨(TX.eU D (xd B (by decide))).lg,?_⟩
 simp only [Hh]
 exact q
def S_X:eZ:=λas R=>∃n b:Int,as=[.d (.int b),.d (.lst [.int n])]/\2<=b/\b<=36/\0<=n/\n<=10 ^ 40/\R (.rd (.str (wt (M.the (M.Fw b n))))) as
theorem U0 {b n:Int} {L:List Int} (z:2<=b) (h:n<=10 ^ 40) (f:M.Fw b n L):Wz L:=by
 have e:(10:Int) ^ 40<2 ^ 1100:=by decide
 have l:=f.len z 1100 (Int.lt_of_le_of_lt h e)
 exact ⟨λx B=>by have:=f.all z x B;exact ⟨this.1,by omega⟩,by omega⟩
theorem afw (T:Zs K mg cs):Ok P w base 7 T.cX S_X:=by
 have I:=Td P w base T
 have z:=UT P w base T
 refine T.cX.F.gC aeN (λas R h=>?_) (λU A outer s H E C as R D B h=>?_)
 ·obtain ⟨_,_,rfl,_⟩:=h;rfl
 have Z:=B.units
 obtain ⟨n,b,rfl,J,Y,O,n1,q⟩:=h
 obtain ⟨n2,n3⟩:=lQ n1
 refine ⟨_,(aL (bI (aj D T.fW I B.m (a1 (ak (aj D T.qY z B.m (a2 (qx D (qv 1)) (qv 0)))))))),?_⟩
 simp only [Hh]
 refine ⟨O,n2,J,Y,λL hL=>?_⟩
 simp only [Hh]
 rw [M.iQ hL λ_ h=>h.uniq hL] at q;exact ⟨U0 J n1 hL,q⟩
def S_W:eZ:=λas R=>∃n b:Int,as=[.d (.int b),.d (.lst [.int n])]/\2<=b/\b<=36/\0<=n/\n<=10 ^ 6/\R (.rd (.str (TX.tx ((M.tw b n).length:Int)))) as
theorem afx (T:Zs K mg cs):Ok P w base 7 T.cY S_W:=by
 have z:=abH P w base T
 refine T.cY.F.gC aeP (λas R h=>?_) (λU A outer s H E C as R D B h=>?_)
 ·obtain ⟨_,_,rfl,_⟩:=h;rfl
 have Y:=B.units
 obtain ⟨n,b,rfl,J,I,O,n1,q⟩:=h
 refine ⟨_,(sr (bM rfl T.dH (a1 (ak (aj D T.gh z B.m (a2 (qx D (qv 1)) (qv 0))))))),?_⟩
 have l:(M.tw b n).length<=10 ^ 6:=zQ (List.length_filter_le _ _) (by
  have h0:(0:Int)<=n / 2:=by omega
  have:=kJ J I h0 (by omega)
  omega)
 simp only [Hh]
 refine ⟨O,n1,J,I,?_⟩
 simp only [Hh]
 refine ⟨(TX.eU (by omega) (by omega)).lg,?_⟩
 simp only [Hh]
 exact q
theorem m5:∀{L:List Int},(∀x∈L,(1:Int)<=x)->∀x∈L,x<=L.sum/\0<=L.sum
 | [],_,x,n=>by cases n
 | y::r,h,x,n=>by
  have D:=h y zo
  rw [xk]
  have B:0<=r.sum:=by
   cases r with
   | nil=>simp
   | cons z r=>exact (m5 (λx n=>h x (zp _ n)) z zo).2
  rcases zr.mp n with rfl|n
  ·omega
  ·have:=(m5 (λx n=>h x (zp _ n)) x n).1
   omega
def S_K:eZ:=λas R=>∃n b:Int,as=[.d (.int b),.d (.lst [.int n])]/\2<=b/\b<=36/\0<=n/\n<=10 ^ 6/\R (.rd (.str (wt (M.the (M.Gt b (M.nd b n) n))))) as
theorem U3 {b n:Int} {L:List Int} (I:2<=b) (B:0<=n) (n1:n<=10 ^ 6) (hL:M.Gt b (M.nd b n) n L):Wz L:=by
 have w:=hL.way
 have k:=M.Em I 20 B (Int.lt_of_le_of_lt n1 (by decide))
 refine ⟨λx z=>⟨(w.mem x z).1,?_⟩,by rw [w.len];omega⟩
 have:=m5 (λy D=>(w.mem y D).1) x z
 rw [w.sum] at this
 omega
theorem afy (T:Zs K mg cs):Ok P w base 24 T.bT S_K:=by
 have I:=Td P w base T
 have D:=abJ P w base T
 refine T.bT.F.gC aeR (λas R h=>?_) (λU A outer s H E C as R B z h=>?_)
 ·obtain ⟨_,_,rfl,_⟩:=h;rfl
 have Z:=z.units
 obtain ⟨n,b,rfl,O,Y,J,n1,q⟩:=h
 refine ⟨_,(aL (bI (aj B T.fW I z.m (a1 (ak (aj B T.oM D z.m (a2 (qx B (qv 1)) (qv 0)))))))),?_⟩
 simp only [Hh]
 refine ⟨J,n1,O,Y,λL hL=>?_⟩
 simp only [Hh]
 rw [M.iQ hL λ_ h=>h.uniq hL] at q
 exact ⟨U3 O J n1 hL,q⟩
def S_J:eZ:=λas R=>∃(n b:Int) (k:Nat),as=[.d (.int b),.d (.lst [.int n,.int k])]/\2<=b/\b<=36/\0<=n/\n<=500/\k<=12/\R (.rd (.str (TX.tx (M.cg true (M.bA b n).reverse k n)))) as
theorem Te (b:Int) {n:Int} (z:0<=n) (n1:n<=500):M.cnt b n<=500:=by
 have h:∀m:Nat,M.pN b m<=m:=λm=>by
  induction m with
  | zero=>exact yx _
  | succ m ih=>unfold M.pN;split<;>omega
 have:=h n.toNat
 unfold M.cnt
 omega
theorem U4 {b n:Int} {k:Nat} (b0:2<=b) (Z:b<=36) (I:0<=n) (n1:n<=500) (k1:k<=12):0<=M.cg true (M.bA b n).reverse k n/\M.cg true (M.bA b n).reverse k n<10 ^ 50:=by
 refine ⟨M.uQ _ _ _,?_⟩
 have h1:=M.Ur (M.bA b n).reverse k n
 rw [yP] at h1
 have B:=Te b I n1
 rw [<-M.ou] at B
 have J:∀(x:Int) (k:Nat),0<=x->x<=500->0<=x ^ k/\x ^ k<=500 ^ k:=λx k z D=>by
  induction k with
  | zero=>simp
  | succ k ih=>
   rw [zJ,zJ]
   exact ⟨Int.mul_nonneg ih.1 z,yK ih.2 D z (by omega)⟩
 have Y:(500:Int) ^ k<=500 ^ 12:=M.bD (by decide) k1
 have U:(500:Int) ^ 12<10 ^ 50:=by decide
 have O:=(J _ k (by omega) B).2
 omega
theorem afz (T:Zs K mg cs):Ok P w base 6 T.cM S_J:=by
 have z:=ae8 P w base T
 refine T.cM.F.gC Yx (λas R h=>?_) (λU A outer s H E C as R I D h=>?_)
 ·obtain ⟨_,_,_,rfl,_⟩:=h;rfl
 have Z:=D.units
 obtain ⟨n,b,k,rfl,O,J,B,n1,k1,q⟩:=h
 obtain ⟨c0,Y⟩:=U4 O J B n1 k1
 refine ⟨_,(bh (fj (qv 1) (vX (n:=2) I rfl (aV (aH (i:=2) Yx.nd rfl lc) (aV (aH (i:=3) Yx.nd rfl lc) dF))))
    (sr (bM rfl T.dH (a1 (ak (aj I T.kI z D.m (a3 (qv 2) (qv 0) (qv 3)))))))),?_⟩
 simp only [Hh]
 refine ⟨B,by omega,O,J,by omega,?_⟩
 simp only [Hh]
 refine ⟨(TX.eU c0 Y).lg,?_⟩
 simp only [Hh]
 exact q
def S_l:eZ:=λas R=>∃(n b pl:Int) (k:Nat),as=[.d (.int b),.d (.lst [.int n,.int k,.int pl])]/\2<=b/\b<=36/\0<=n/\n<=500/\k<=12/\0<=pl/\pl<M.cg true (M.bA b n).reverse k n/\R (.rd (.str (wt (M.qu (M.bA b n).reverse k n pl)))) as
theorem afA (T:Zs K mg cs):Ok P w base 6 T.bz S_l:=by
 have I:=Td P w base T
 have D:=afc P w base T
 refine T.bz.F.gC BZ (λas R h=>?_) (λY A outer s H E C as R B z h=>?_)
 ·obtain ⟨_,_,_,_,rfl,_⟩:=h;rfl
 have hu:=z.units
 obtain ⟨n,b,pl,k,rfl,b0,Z,J,n1,k1,p0,p1,q⟩:=h
 refine ⟨_,(bh (fj (qv 1) (vX (n:=3) B rfl (aV (aH (i:=2) BZ.nd rfl lc) (aV (aH (i:=3) BZ.nd rfl lc) (aV (aH (i:=4) BZ.nd rfl lc) dF)))))
    (aL (bI (aj B T.fW I z.m (a1 (ak (aj B T.jm D z.m (aN (qv 2) (a3 (qv 0) (qv 3) (qv 4)))))))))),?_⟩
 simp only [Hh]
 refine ⟨J,by omega,b0,Z,by omega,p0,p1,?_⟩
 simp only [Hh]
 obtain ⟨O,w2⟩:=M.Er (M.bA b n).reverse k n pl
 exact ⟨⟨λx U=>by have:=(M.iI J).mp (yi.mp (O x U));omega,by omega⟩,q⟩
def X_a (cs:XA):Ik:=λas n=>∃i:Int,as=[.d (.int i)]/\¬(2<=i/\i<=36)/\n=cs.fQ
theorem abV (T:Zs K mg cs):YG P w base 2 T.aG (X_a cs):=by
 have D:=O8 P w base T
 obtain ⟨z,dW⟩:=T.dW
 obtain ⟨n,cB⟩:=T.cB
 refine T.aG.F.Zh abf (λas Y h=>?_) (λU A outer s H E C as Y XE O I h B lk J=>?_)
 ·obtain ⟨_,rfl,_⟩:=h;exact ⟨rfl,BL [_]⟩
 have Z:=I.units
 obtain ⟨i,rfl,hi,rfl⟩:=h
 subst B
 refine ⟨_,(aL (bx (PW.pt (w_or (iC (gP (ak (aj O T.eH D I.m (a1 (qv 0)))))) (uF (iC (vK rF rF (oW (e_ (v:=.int 2) rfl dW ⟨_,rfl⟩) (λ_=>.int _)) (qv 0) (oW (e_ (v:=.int 36) rfl cB ⟨_,rfl⟩) (λ_=>.int _))))))) (aL (vV T.BJ rfl J (a1 qs))) aP)),?_⟩
 simp only [Q,S_m]
 split
 ·split
  ·exact hi ⟨by assumption,by assumption⟩
  ·trivial
 ·trivial
def X_q (cs:XA):Ik:=λas z=>∃n b:Int,as=[.d (.int n),.d (.int b)]/\0<=n/\n<M.sZ/\2<=b/\b<=36/\M.bQ b n=false/\z=cs.cF
theorem abW (T:Zs K mg cs):YG P w base 5 T.dJ (X_q cs):=by
 have I:=jN P w base T
 have D:=O_ P w base T
 refine T.dJ.F.Zh Sy (λas Cl h=>?_) (λcdv A outer s H E C as Cl XE J z h B lk Z=>?_)
 ·obtain ⟨_,_,rfl,_⟩:=h;exact ⟨rfl,BL [_,_]⟩
 have hu:=z.units
 obtain ⟨n,b,rfl,Y,n1,U,O,hm,rfl⟩:=h
 subst B
 refine ⟨_,(bh (nO (ak (aj J T.aG I z.m (a1 (qv 1))))) (uJ (bx (iC (gP (ak (aj J T.cJ D z.m (a2 (qv 0) (qv 1)))))) (aL (vV T.tM rfl Z (a1 qs))) aP))),?_⟩
 simp only [Hh]
 refine ⟨U,O,?_⟩
 simp only [Hh]
 refine ⟨Y,n1,U,O,?_⟩
 simp only [Hh]
 rw [hm]
 simp only [Q]
def X_z (cs:XA):Ik:=λas z=>∃(n b pl:Int) (k:Nat),as=[.d (.int n),.d (.int b),.d (.int k),.d (.int pl)]/\0<=n/\n<=2000/\2<=b/\b<=36/\k<=2000/\0<=pl/\M.cg true (M.bA b n).reverse k n<=pl/\z=cs.dz
theorem abX (T:Zs K mg cs):YG P w base 5 T.jm (X_z cs):=by
 have xN:=jN P w base T
 have Y:=O8 P w base T
 have Z:=Pg P w base T
 have G_F:=YL P w base T
 refine T.jm.F.Zh oJ (λas Cl h=>?_) (λcdv A outer s H E C as Cl XE B I h U lk lr=>?_)
 ·obtain ⟨_,_,_,_,rfl,_⟩:=h;exact ⟨rfl,BL [_,_,_,_]⟩
 have hu:=I.units
 obtain ⟨n,b,pl,k,rfl,J,n1,b0,b1,k1,l0,l1,rfl⟩:=h
 subst U
 refine ⟨_,(DX (aR (aZ (λW ok=>(nO (ak (aj B T.aG xN I.m (a1 (qv 1))))))) (aR (aZ (λW ok=>(bx (PW.pt (w_or (iC (gP (ak (aj B T.eH Y I.m (a1 (qv 3)))))) (uF (rT (qv 3) qi)))) (aL (vV T.pO rfl (vD.add lr ok) (a1 qs))) aP))) (aR (aZ (λW ok=>(aU (i:=4) oJ.nd rfl lc (ak (aj B T.cL Z I.m (a2 (qv 0) (qv 1))))))) (aR (qd (i:=5) oJ.nd rfl lc (ig B T.jk G_F I.m (λW ok=>(a3 (qv 4) (qv 0) (qv 2))))) (v_cut (aZ (λW ok=>(bx (Dr (qv 3) (dG ok B (dG ok B (qv 5) (qv 2) (λ_ _=>rfl)) (qv 0) (λ_ _=>rfl))) (aL (vV T.pO rfl (vD.add lr ok) (a1 qs))) aP))))))))),?_⟩
 show uh _ _ _ _ _
 refine aF λO z=>?_
 simp only [Hg]
 refine ⟨b0,b1,z _ _ ?_⟩
 refine aF λO z=>?_
 simp only [R,S_m]
 rw [zi (by omega)]
 refine z _ _ ?_
 refine aF λO z=>?_
 simp only [R,Zi]
 refine ⟨J,by omega,b0,b1,z _ _ ?_⟩
 refine aF λO z=>?_
 simp only [R,S_F]
 have bd:=Ez (b:=b) (n:=n) J
 refine ⟨M.bA b n,rfl,n.toNat,by omega,k,rfl,by omega,k1,λy hy=>?_,M.iu b n,λW' x ms hM hT=>z _ _ ?_⟩
 ·have:=bd y hy
  omega
 have g:=hT.val k n.toNat (zx _) (zx _)
 rw [show ((n.toNat:Nat):Int)=n by omega] at g
 have rd:∃(bs:List Addr) (b':Addr) (r:List Int),W' x=some (.lst (bs.map V.ref))/\iy (bs.map V.ref) (k:Int)=some (.ref b')/\W' b'=some (.lst (List.map V.int r))/\iy (List.map V.int r) n=some (.int (M.cg true (M.bA b n).reverse k n)):=by
  obtain ⟨bs,hx,nx,D⟩:=hM
  have hb:=D.len
  have hl:=hT.qT.len
  obtain ⟨r,s1,y1⟩:=M.gA g
  obtain ⟨b',e1⟩:∃b',bs[k]? = some b':=⟨_,zg (by omega)⟩
  exact ⟨bs,b',r,hx,fu (by omega) (by rw [xB];exact e1),D.at_ _ _ _ e1 s1,ji J y1⟩
 obtain ⟨bs,b',r,r1,r2,r3,r4⟩:=rd
 show MK _ _ _ _
 unfold MK
 simp only [R,r1,r2,r3,r4]
 rw [zm l1];trivial
def X_t (cs:XA):Ik:=λas z=>∃n b:Int,as=[.d (.int b),.d (.lst [.int n])]/\0<=n/\n<M.sZ/\2<=b/\b<=36/\M.bQ b n=false/\z=cs.cF
theorem abY (T:Zs K mg cs):YG P w base 6 T.bf (X_t cs):=by
 have z:=abW P w base T
 refine T.bf.F.Zh abn (λas Cl h=>?_) (λU A outer s H E C as Cl XE I D h B lk lr=>?_)
 ·obtain ⟨_,_,rfl,_⟩:=h;exact ⟨rfl,BL [_,_]⟩
 have hu:=D.units
 obtain ⟨n,b,rfl,J,n1,Z,Y,O,rfl⟩:=h
 subst B
 refine ⟨_,(uJ (bI (i_ (bM rfl T.dH (a1 (ak (k_ I T.dJ z D.m lk (a2 (qx I (qv 1)) (qv 0))))))))),?_⟩
 simp only [Hh]
 exact ⟨_,cs.cF,rfl,x9,⟨n,b,rfl,J,n1,Z,Y,O,rfl⟩,rfl⟩
def X_l (cs:XA):Ik:=λas z=>∃(n b pl:Int) (k:Nat),as=[.d (.int b),.d (.lst [.int n,.int k,.int pl])]/\0<=n/\n<=2000/\2<=b/\b<=36/\k<=2000/\0<=pl/\M.cg true (M.bA b n).reverse k n<=pl/\z=cs.dz
theorem abZ (T:Zs K mg cs):YG P w base 6 T.bz (X_l cs):=by
 have z:=abX P w base T
 have J:=Td P w base T
 refine T.bz.F.Zh BZ (λas Cl h=>?_) (λY A outer s H E C as Cl XE I B h D lk lr=>?_)
 ·obtain ⟨_,_,_,_,rfl,_⟩:=h;exact ⟨rfl,BL [_,_]⟩
 have hu:=B.units
 obtain ⟨n,b,pl,k,rfl,O,n1,b0,Z,k1,l0,U,rfl⟩:=h
 subst D
 refine ⟨_,(bh (fj (qv 1) (vX (n:=3) I rfl (aV (aH (i:=2) BZ.nd rfl lc) (aV (aH (i:=3) BZ.nd rfl lc) (aV (aH (i:=4) BZ.nd rfl lc) dF))))) (uJ (bI (aj I T.fW J B.m (a1 (ak (k_ I T.jm z B.m lk (aN (qv 2) (a3 (qv 0) (qv 3) (qv 4)))))))))),?_⟩
 simp only [Hh]
 exact ⟨_,cs.dz,rfl,x9,⟨n,b,pl,k,rfl,O,n1,b0,Z,k1,l0,U,rfl⟩,rfl⟩
noncomputable def ans (b:Int) (f:Str) (ns:List Int):Str:=(List.lookup f [(("figures":Str),Txt.join TX.mQ ((M.fg b (ns.getD 0 0)).map TX.tx)),("is",if M.bQ b (ns.getD 0 0)=true then ("yes":Str) else "no"),("below",TX.tx (M.the (M.AM b (ns.getD 0 0)))),("above",TX.tx (M.the (M.AL b (ns.getD 0 0)))),("count",TX.tx (M.cnt b (ns.getD 0 0))),("at",TX.tx (M.the λm=>M.Mp b m/\M.pl b m=ns.getD 0 0)),("place",TX.tx (M.pl b (ns.getD 0 0))),("few",wt (M.the (M.Fw b (ns.getD 0 0)))),("two",TX.tx ((M.tw b (ns.getD 0 0)).length:Int)),("fewest",wt (M.the (M.Gt b (M.nd b (ns.getD 0 0)) (ns.getD 0 0)))),("ways",TX.tx (M.cg true (M.bA b (ns.getD 0 0)).reverse (ns.getD 1 0).toNat (ns.getD 0 0))),("way",wt (M.qu (M.bA b (ns.getD 0 0)).reverse (ns.getD 1 0).toNat (ns.getD 0 0) (ns.getD 2 0)))]).getD ""
theorem tX (b n:Int):ans b ("figures":Str) [n]=Txt.join TX.mQ ((M.fg b n).map TX.tx):=by kernel_rfl
theorem U5 (b n:Int):ans b ("is":Str) [n]=if M.bQ b n=true then ("yes":Str) else "no":=by kernel_rfl
theorem Ci (b n:Int):ans b ("below":Str) [n]=TX.tx (M.the (M.AM b n)):=by kernel_rfl
theorem Cj (b n:Int):ans b ("above":Str) [n]=TX.tx (M.the (M.AL b n)):=by kernel_rfl
theorem Ck (b n:Int):ans b ("count":Str) [n]=TX.tx (M.cnt b n):=by kernel_rfl
theorem U6 (b n:Int):ans b ("at":Str) [n]=TX.tx (M.the λm=>M.Mp b m/\M.pl b m=n):=by kernel_rfl
theorem Cm (b n:Int):ans b ("place":Str) [n]=TX.tx (M.pl b n):=by kernel_rfl
theorem Px (b n:Int):ans b ("few":Str) [n]=wt (M.the (M.Fw b n)):=by kernel_rfl
theorem Py (b n:Int):ans b ("two":Str) [n]=TX.tx ((M.tw b n).length:Int):=by kernel_rfl
theorem uV (b n:Int):ans b ("fewest":Str) [n]=wt (M.the (M.Gt b (M.nd b n) n)):=by kernel_rfl
theorem G4 (b n:Int) (k:Nat):ans b ("ways":Str) [n,k]=TX.tx (M.cg true (M.bA b n).reverse k n):=by kernel_rfl
theorem Pz (b n pl:Int) (k:Nat):ans b ("way":Str) [n,k,pl]=wt (M.qu (M.bA b n).reverse k n pl):=by kernel_rfl
structure Good (b:Int) (f:Str) (ns:List Int):Prop where
 nb:f≠("base":Str)
 place:f=("place":Str)->M.bQ b (ns.getD 0 0)=true
 way:f=("way":Str)->ns.getD 2 0<M.cg true (M.bA b (ns.getD 0 0)).reverse (ns.getD 1 0).toNat (ns.getD 0 0)
def Dk (cl:Addr) (H:Hp) (x:Addr) (b:Int):Prop:=(∃dx,H x=some (.ins cl dx [("base",.int b)]))/\2<=b/\b<=36
def AT (m:Nat) (t:Str):Prop:=t.cps.all (·<128)=true/\t.length<=m
def U7 (cl:Addr):Rk:=λH as R=>∃(x:Addr) (b:Int) (w f:Str) (ns:List Int),as=[.d (.atom (.ref x)),.d (.str w)]/\Dk cl H x b/\AT 50000 w/\TX.rowOf w=some (f,ns)/\Good b f ns/\R (.rd (.str (ans b f ns))) as
inductive m7 (T:Zs K mg cs):Addr->eZ->Prop
 | oF:m7 T T.bJ.f S_H
 | is_:m7 T T.dI.f abR
 | wK:m7 T T.cj.f S_O
 | wL:m7 T T.cu.f S_R
 | wM:m7 T T.cz.f S_Q
 | at_:m7 T T.dM.f abT
 | mR:m7 T T.bf.f S_t
 | Sq:m7 T T.cX.f S_X
 | two_:m7 T T.cY.f S_W
 | qW:m7 T T.bT.f S_K
 | GR:m7 T T.cM.f S_J
 | En:m7 T T.bz.f S_l
theorem afB {k:Nat} {A:Around} (T:Zs K mg cs) (n:bR k A) (z:24<=k) {f:Addr} {S:eZ} (h:m7 T f S):∃k fd ps,bY P w K mg base m8 k f fd ps (DK K S)/\bR k A/\Binds K fd ps []/\PySem.W.keepIn K (.ref f)=true:=by
 cases h
 ·exact ⟨_,_,_,afr _ _ _ T,n.mono (by omega),T.bJ.b,T.bJ.F.kp⟩
 ·exact ⟨_,_,_,abS _ _ _ T,n.mono (by omega),T.dI.b,T.dI.F.kp⟩
 ·exact ⟨_,_,_,afs _ _ _ T,n.mono (by omega),T.cj.b,T.cj.F.kp⟩
 ·exact ⟨_,_,_,aft _ _ _ T,n.mono (by omega),T.cu.b,T.cu.F.kp⟩
 ·exact ⟨_,_,_,afu _ _ _ T,n.mono (by omega),T.cz.b,T.cz.F.kp⟩
 ·exact ⟨_,_,_,abU _ _ _ T,n.mono (by omega),T.dM.b,T.dM.F.kp⟩
 ·exact ⟨_,_,_,afv _ _ _ T,n.mono (by omega),T.bf.b,T.bf.F.kp⟩
 ·exact ⟨_,_,_,afw _ _ _ T,n.mono (by omega),T.cX.b,T.cX.F.kp⟩
 ·exact ⟨_,_,_,afx _ _ _ T,n.mono (by omega),T.cY.b,T.cY.F.kp⟩
 ·exact ⟨_,_,_,afy _ _ _ T,n.mono (by omega),T.bT.b,T.bT.F.kp⟩
 ·exact ⟨_,_,_,afz _ _ _ T,n.mono (by omega),T.cM.b,T.cM.F.kp⟩
 ·exact ⟨_,_,_,afA _ _ _ T,n.mono (by omega),T.bz.b,T.bz.F.kp⟩
abbrev YZ (T:Zs K mg cs):List (Str × Addr):=[((Str.ofString "figures"),T.bJ.f),((Str.ofString "is"),T.dI.f),((Str.ofString "below"),T.cj.f),((Str.ofString "above"),T.cu.f),((Str.ofString "count"),T.cz.f),((Str.ofString "at"),T.dM.f),((Str.ofString "place"),T.bf.f),((Str.ofString "few"),T.cX.f),((Str.ofString "two"),T.cY.f),((Str.ofString "fewest"),T.bT.f),((Str.ofString "ways"),T.cM.f),((Str.ofString "way"),T.bz.f)]
theorem ab0 {f:Str} (h:f≠("base":Str)):(f=Str.ofString "base")=False:=eq_false h
theorem oU (b:Int):List.lookup (Str.ofString "base") [((Str.ofString "base"),V.int b)]=some (V.int b):=by simp
theorem PB (T:Zs K mg cs):bY P w K mg base m8 25 T.O6 T.B_ ["self","words"] (Zg K (U7 T.cl)):=by
 have G_e:=YX P w base T
 have xN:=jN P w base T
 refine T.YB.okH cP (λH as R h=>?_) (λcdv A outer s H E C as R O hH0 hbs Y h=>?_)
 ·obtain ⟨_,_,_,_,_,rfl,_⟩:=h;rfl
 have hu:=Y.units
 have hG:=λf S (h:m7 T f S)=>afB P w base T Y (by decide) h
 obtain ⟨x,b,w,f,ns,rfl,⟨⟨dx,hx⟩,I,B⟩,⟨wa,wl⟩,U,Z,q⟩:=h
 have h0:C.bs=[]:=Ni (ds:=[.atom (.ref x),.str w]) hbs
 subst hH0
 have UL:=TX.Eo U
 have hnb:=ab0 Z.nb
 refine ⟨_,(bh (fj (ak (aj O T.b_ G_e Y.m (a1 (qv 1)))) (jc (n:=2) O rfl (aV (aH (i:=2) cP.nd rfl lc) (aV (aH (i:=3) cP.nd rfl lc) dF))))
    (bh (bx (dh O hu (qv 2) qs) (bh (nO (ak (aj O T.aG xN Y.m (a1 (qx O (qv 3))))))
    (bh pD
    (sr qs))) aP)
    (bh (aU (i:=4) cP.nd rfl lc (Bm T.kA rfl T.mA (qv 2) (λ_ _=>rfl)))
    (aL (bI (RV O (qv 4) hG (a2 (Eb h0 O (qv 0)) (qv 3)))))))),?_⟩
 refine aq λkk J=>?_
 simp only [R,S_e]
 refine ⟨wa,wl,f,ns,U,?_⟩
 simp only [Hg]
 refine J _ ?_
 refine aq λkk J=>?_
 simp only [R,hnb]
 refine J _ ?_
 refine aq λkk J=>?_
 suffices key:∃fa S,PyProof.Rows.KTD.datumAt f (YZ T)=some fa/\m7 T fa S/\∀z:Rt->List Sl->Prop,z (.rd (.str (ans b f ns))) [.d (.int b),.d (.lst (ns.map D.int))]->S [.d (.int b),.d (.lst (ns.map D.int))] z by
  obtain ⟨fa,S,h1,h2,h3⟩:=key
  simp only [R,h1]
  refine J _ ?_
  simp only [Q,oU]
  exact ⟨S,h2,_,_,_,hx,O▸T.cls,O▸T.na,_,oU b,h3 _ q⟩
 cases UL with
 | Bx=>exact absurd rfl Z.nb
 | oF n0 n1=>exact ⟨_,_,by kernel_rfl,.oF,λz h=>⟨_,_,rfl,I,B,n0,n1,tX ..▸h⟩⟩
 | is_ n0 n1=>exact ⟨_,_,by kernel_rfl,.is_,λz h=>⟨_,_,rfl,I,B,n0,n1,U5 ..▸h⟩⟩
 | wK n0 n1=>exact ⟨_,_,by kernel_rfl,.wK,λz h=>⟨_,_,rfl,I,B,n0,n1,Ci ..▸h⟩⟩
 | wL n0 n1=>exact ⟨_,_,by kernel_rfl,.wL,λz h=>⟨_,_,rfl,I,B,n0,n1,Cj ..▸h⟩⟩
 | wM n0 n1=>exact ⟨_,_,by kernel_rfl,.wM,λz h=>⟨_,_,rfl,I,B,n0,n1,Ck ..▸h⟩⟩
 | at_ n0 n1=>exact ⟨_,_,by kernel_rfl,.at_,λz h=>⟨_,_,rfl,I,B,n0,n1,U6 ..▸h⟩⟩
 | mR n0 n1=>exact ⟨_,_,by kernel_rfl,.mR,λz h=>⟨_,_,rfl,I,B,n0,n1,Z.place rfl,Cm ..▸h⟩⟩
 | Sq n0 n1=>exact ⟨_,_,by kernel_rfl,.Sq,λz h=>⟨_,_,rfl,I,B,n0,n1,Px ..▸h⟩⟩
 | two_ n0 n1=>exact ⟨_,_,by kernel_rfl,.two_,λz h=>⟨_,_,rfl,I,B,n0,n1,Py ..▸h⟩⟩
 | qW n0 n1=>exact ⟨_,_,by kernel_rfl,.qW,λz h=>⟨_,_,rfl,I,B,n0,n1,uV ..▸h⟩⟩
 | GR n0 n1 k1=>exact ⟨_,_,by kernel_rfl,.GR,λz h=>⟨_,_,_,rfl,I,B,n0,n1,k1,G4 ..▸h⟩⟩
 | En n0 n1 k1 p0 p1=>exact ⟨_,_,by kernel_rfl,.En,λz h=>⟨_,_,_,_,rfl,I,B,n0,n1,k1,p0,Z.way rfl,Pz ..▸h⟩⟩
inductive Bad (cs:XA) (b:Int):D->Addr->Prop
 | text {d:D}:Av "str" d=some false->Bad cs b d cs.bH
 | row {w:Str}:AT 50000 w->TX.rowOf w=none->Bad cs b (.str w) cs.bH
 | Bx {w:Str} {n:Int}:AT 50000 w->TX.rowOf w=some (("base":Str),[n])->¬(2<=n/\n<=36)->Bad cs b (.str w) cs.fQ
 | place {w:Str} {n:Int}:AT 50000 w->TX.rowOf w=some (("place":Str),[n])->M.bQ b n=false->Bad cs b (.str w) cs.cF
 | way {w:Str} {n pl:Int} {k:Nat}:AT 50000 w->TX.rowOf w=some (("way":Str),[n,k,pl])->M.cg true (M.bA b n).reverse k n<=pl->Bad cs b (.str w) cs.dz
def U8 (cs:XA) (cl:Addr):XHp:=λH as n=>∃(x:Addr) (d:D) (b:Int),as=[.d (.atom (.ref x)),.d d]/\Dk cl H x b/\Bad cs b d n
inductive Y0 (T:Zs K mg cs):Addr->Ik->Prop
 | mR:Y0 T T.bf.f (X_t cs)
 | En:Y0 T T.bz.f (X_l cs)
theorem Tf (T:Zs K mg cs):bY P w K mg base (oV P w) 25 T.O6 T.B_ ["self","words"] (Rv K (U8 cs T.cl)):=by
 have Y:=YX P w base T
 have O:=abQ P w base T
 have xN:=jN P w base T
 have afC:=abV P w base T
 refine T.YB.Xy cP (λH as Cl h=>?_) (λcdv A outer s H E C as Cl XE B hH0 h0 I h hXE lk lr ln=>?_)
 ·obtain ⟨_,_,_,rfl,_⟩:=h;exact ⟨rfl,BL [_,_]⟩
 have hu:=I.units
 have hGX:∀f S,Y0 T f S->∃k fd ps,bY P w K mg base (oV P w) k f fd ps (spX K S)/\bR k _/\Binds K fd ps []/\PySem.W.keepIn K (.ref f)=true:=λf S h=>by
  cases h
  ·exact ⟨_,_,_,abY _ _ _ T,I.mono (by decide),T.bf.b,T.bf.F.kp⟩
  ·exact ⟨_,_,_,abZ _ _ _ T,I.mono (by decide),T.bz.b,T.bz.F.kp⟩
 obtain ⟨x,d,b,rfl,⟨⟨dx,hx⟩,b0,b1⟩,hb⟩:=h
 subst hXE hH0
 cases hb with
 | text h1=>
  refine ⟨_,(uJ (fj (ak (k_ B T.b_ O I.m lk (a1 (qv 1)))) (jc (n:=2) B rfl (aV (aH (i:=2) cP.nd rfl lc) (aV (aH (i:=3) cP.nd rfl lc) dF))))),?_⟩
  simp only [Hh]
  exact ⟨_,cs.bH,rfl,x9,⟨_,rfl,.inl h1,rfl⟩,rfl⟩
 | row h1 h2=>
  refine ⟨_,(uJ (fj (ak (k_ B T.b_ O I.m lk (a1 (qv 1)))) (jc (n:=2) B rfl (aV (aH (i:=2) cP.nd rfl lc) (aV (aH (i:=3) cP.nd rfl lc) dF))))),?_⟩
  simp only [Hh]
  exact ⟨_,cs.bH,rfl,x9,⟨_,rfl,.inr ⟨_,rfl,h1.1,h1.2,h2⟩,rfl⟩,rfl⟩
 | Bx h1 h2 h3=>
  refine ⟨_,(bh (fj (ak (aj B T.b_ Y I.m (a1 (qv 1)))) (jc (n:=2) B rfl (aV (aH (i:=2) cP.nd rfl lc) (aV (aH (i:=3) cP.nd rfl lc) dF)))) (uJ (bx (dh B hu (qv 2) qs) (bh (nO (ak (k_ B T.aG afC I.m lk (a1 (qx B (qv 3))))))
    (bh pD
    (sr qs))) aP))),?_⟩
  simp only [Hh]
  show Exists _
  refine ⟨_,_,_,rfl,h1.1,h1.2,h2,?_⟩
  simp only [Hh]
  refine qt (λ_=>?_) (λz=>absurd rfl z)
  simp only [Hh]
  exact ⟨_,cs.fQ,rfl,x9,⟨_,rfl,h3,rfl⟩,rfl⟩
 | place h1 h2 h3=>
  have J:=TX.Eo h2
  have hd:PyProof.Rows.KTD.datumAt (Str.ofString "place") (YZ T)=some T.bf.f:=by kernel_rfl
  have U:(Str.ofString "place"=Str.ofString "base")=False:=eq_false (by decide)
  refine ⟨_,(bh (fj (ak (aj B T.b_ Y I.m (a1 (qv 1)))) (jc (n:=2) B rfl (aV (aH (i:=2) cP.nd rfl lc) (aV (aH (i:=3) cP.nd rfl lc) dF))))
    (bh (bx (dh B hu (qv 2) qs) (bh (nO (ak (aj B T.aG xN I.m (a1 (qx B (qv 3))))))
    (bh pD
    (sr qs))) aP)
    (bh (aU (i:=4) cP.nd rfl lc (Bm T.kA rfl T.mA (qv 2) (λ_ _=>rfl)))
    (aL (bI (Bp B (qv 4) hGX lk (a2 (Eb h0 B (qv 0)) (qv 3)))))))),?_⟩
  refine aq λZ D=>?_
  simp only [R,S_e]
  refine ⟨h1.1,h1.2,_,_,h2,?_⟩
  simp only [Hg]
  refine D _ ?_
  refine aq λZ D=>?_
  simp only [R,U]
  refine D _ ?_
  refine aq λZ D=>?_
  simp only [R,hd]
  refine D _ ?_
  cases J with
  | mR n0 n1=>
   simp only [Q]
   refine ⟨_,.mR,_,_,_,hx,B▸T.cls,B▸T.na,_,oU b,?_⟩
   exact ⟨_,_,rfl,n0,(lQ n1).1,b0,b1,h3,rfl⟩
 | way h1 h2 h3=>
  have J:=TX.Eo h2
  have hd:PyProof.Rows.KTD.datumAt (Str.ofString "way") (YZ T)=some T.bz.f:=by kernel_rfl
  have U:(Str.ofString "way"=Str.ofString "base")=False:=eq_false (by decide)
  refine ⟨_,(bh (fj (ak (aj B T.b_ Y I.m (a1 (qv 1)))) (jc (n:=2) B rfl (aV (aH (i:=2) cP.nd rfl lc) (aV (aH (i:=3) cP.nd rfl lc) dF))))
    (bh (bx (dh B hu (qv 2) qs) (bh (nO (ak (aj B T.aG xN I.m (a1 (qx B (qv 3))))))
    (bh pD
    (sr qs))) aP)
    (bh (aU (i:=4) cP.nd rfl lc (Bm T.kA rfl T.mA (qv 2) (λ_ _=>rfl)))
    (aL (bI (Bp B (qv 4) hGX lk (a2 (Eb h0 B (qv 0)) (qv 3)))))))),?_⟩
  refine aq λZ D=>?_
  simp only [R,S_e]
  refine ⟨h1.1,h1.2,_,_,h2,?_⟩
  simp only [Hg]
  refine D _ ?_
  refine aq λZ D=>?_
  simp only [R,U]
  refine D _ ?_
  refine aq λZ D=>?_
  simp only [R,hd]
  refine D _ ?_
  generalize hk:((_:Nat):Int)=k' at J
  cases J with
  | En n0 n1 k1 p0 p1=>
   simp only [Q]
   refine ⟨_,.En,_,_,_,hx,B▸T.cls,B▸T.na,_,oU b,?_⟩
   have e:=Int.ofNat_inj.mp hk
   subst e
   exact ⟨_,_,_,_,rfl,n0,by omega,b0,b1,by omega,p0,h3,rfl⟩
def Y4 (cl:Addr):Cu:=λW ds R=>∃(x dx:Addr) (b n:Int) (w:Str),ds=[.atom (.ref x),.str w]/\W x=some (.ins cl dx [("base",.int b)])/\AT 50000 w/\TX.rowOf w=some (("base":Str),[n])/\2<=n/\n<=36/\R (.str "ok") (upd W x (.ins cl dx [("base",.int n)]))
theorem Tg (T:Zs K mg cs):bY P w K mg base m8 25 T.O6 T.B_ ["self","words"] (Jk K (Y4 T.cl)):=by
 have J:=YX P w base T
 have O:=jN P w base T
 refine T.YB.Uc cP (λW ds R h=>?_) (λcdv A outer s H E C W ds R B I h=>?_)
 ·obtain ⟨_,_,_,_,_,rfl,_⟩:=h;rfl
 have hu:=I.units
 obtain ⟨x,dx,b,n,w,rfl,hx,⟨Y,U⟩,D,Z,n1,q⟩:=h
 refine ⟨_,(aR (aZ (λW ok=>(fj (ak (aj B T.b_ J I.m (a1 (qv 1)))) (jc (n:=2) B rfl (aV (aH (i:=2) cP.nd rfl lc) (aV (aH (i:=3) cP.nd rfl lc) dF)))))) (v_cut (aaT (λW ok=>(dh B hu (qv 2) qs)) (aR (aZ (λW ok=>(nO (ak (aj B T.aG O I.m (a1 (qx B (qv 3))))))))
    (aR (Uh B (λW ok=>(qv 0)) (λW ok=>(qx B (qv 3))))
    (cU (aZ (λW ok=>(bI (i_ qs))))))) Ua))),?_⟩
 simp only [Hh]
 show Exists _
 refine ⟨w,_,_,rfl,Y,U,D,?_⟩
 simp only [Hh]
 refine qt (λ_=>?_) (λz=>absurd rfl z)
 simp only [Hh]
 refine ⟨Z,n1,?_⟩
 simp only [Hh]
 have ep:iW (Str.ofString "base") (V.int n) [((Str.ofString "base"),V.int b)]=[((Str.ofString "base"),V.int n)]:=by unfold iW;simp
 refine ⟨_,_,_,_,_,rfl,rfl,hx,B▸T.cls,B▸T.na,by simp,?_⟩
 rw [ep]
 simp only [Hh]
 exact q
def G5 (cl:Addr):Cu:=λW ds R=>∃x dx:Addr,ds=[.atom (.ref x)]/\W x=some (.ins cl dx [])/\R .non (upd W x (.ins cl dx [("base",.int 10)]))
theorem Th (T:Zs K mg cs):bY P w K mg base m8 1 T.YD T.O7 ["self"] (Jk K (G5 T.cl)):=by
 obtain ⟨n,jB⟩:=T.jB
 refine T.aeZ.Uc abv (λW ds R h=>?_) (λI A outer s H E C W ds R z D h=>?_)
 ·obtain ⟨_,_,rfl,_⟩:=h;rfl
 have J:=D.units
 obtain ⟨x,dx,rfl,B,q⟩:=h
 refine ⟨_,(cU (Uh z (λW ok=>(qv 0)) (λW ok=>(oW (e_ (v:=.int 10) rfl jB ⟨_,rfl⟩) (λ_=>.int _))))),?_⟩
 simp only [Q]
 exact ⟨_,_,_,B,z▸T.cls,z▸T.na,by simp,q⟩
def dD (m:Int) (h:List D):Prop:=∃a f k:Int,h=[.int a,.int f,.int k]/\0<=k/\k<=m
theorem dD.mono {m n:Int} {h:List D} (d:dD m h) (l:m<=n):dD n h:=by
 obtain ⟨a,f,k,e,h1,h2⟩:=d
 exact ⟨a,f,k,e,h1,by omega⟩
def uW:eZ:=λas R=>∃(h:List D) (m n:Int),as=[.bor h,.d (.int n)]/\dD m h/\m<=10 ^ 6/\0<n/\n<1073741824/\∀(g:Int) h',0<=g->g<n->dD (m+1) h'->R (.rd (.int g)) [.bor h',.d (.int n)]
theorem Ti (T:Zs K mg cs):Ok P w base 1 T.aM uW:=by
 refine T.aM.F.gC Oz (λas R h=>?_) (λY A outer s H E C as R D U h=>?_)
 ·obtain ⟨_,_,_,rfl,_⟩:=h;rfl
 have O:=U.units
 obtain ⟨h,m,n,rfl,⟨a,f,k,rfl,k0,k1⟩,Z,J,n1,q⟩:=h
 refine ⟨_,(bh (bx (dh D O (qx D (qv 0)) qi) (bh (aU (i:=2) Oz.nd rfl lc (nM (qx D (qv 0)) (qv 1)))
    (bh (Lh (i:=0) (iM (qx D (qv 0)) (qv 1)) (pv 0) qi)
    (sr (qv 2)))) aP)
    (bh (Lh (i:=0) (cT (qx D (qv 0)) qi) (pv 0) qi)
    (bh (aU (i:=3) Oz.nd rfl lc (jV (nM (qx D (qv 0)) qi) (cT (jV (qx D (qv 0)) (qx D (qv 0))) qi)))
    (bh (aU (i:=3) Oz.nd rfl lc (nM (cT (cT (qv 3) (qx D (qv 0))) qi) qi))
    (bh (aU (i:=3) Oz.nd rfl lc (nM (jV (qv 3) (qv 3)) qi))
    (sr (nM (iM (nM (jV (qv 3) qi) qi) qi) (qv 1)))))))),?_⟩
 refine aq λI B=>?_
 simp only [Hg]
 refine eX (λc=>?_) (λc=>B _ ?_)
 ·refine aq λI B=>?_
  simp only [R]
  refine ⟨J,B _ ?_⟩
  refine aq λI B=>?_
  simp only [R]
  refine ⟨J,.inl (by omega),0,by unfold Ab;simp,B _ ?_⟩
  simp only [Hh]
  exact q _ _ (yN _ (by omega)) (yA _ J) ⟨_,_,_,rfl,k0,by omega⟩
 refine aq λI B=>?_
 simp only [R]
 refine ⟨2,by unfold Ab;simp,B _ ?_⟩
 refine aq λI B=>?_
 simp only [R]
 have e0:=yN a (show (2147483647:Int)≠0 by decide)
 have e1:=yA a (show (0:Int)<2147483647 by decide)
 generalize a % 2147483647=x at *
 refine ⟨.inl ⟨by omega,by omega⟩,.inl ⟨by omega,by omega⟩,B _ ?_⟩
 refine aq λI B=>?_
 simp only [R]
 refine B _ ?_
 have f0:=yN (x * ((k+1) * (k+1)+48271)+(k+1)+7) (show (2147483629:Int)≠0 by decide)
 have f1:=yA (x * ((k+1) * (k+1)+48271)+(k+1)+7) (show (0:Int)<2147483629 by decide)
 generalize (x * ((k+1) * (k+1)+48271)+(k+1)+7) % 2147483629=y at *
 refine aq λI B=>?_
 simp only [R]
 refine ⟨.inl ⟨by omega,by omega⟩,B _ ?_⟩
 have g0:=yN (y * y) (show (2147483587:Int)≠0 by decide)
 have g1:=yA (y * y) (show (0:Int)<2147483587 by decide)
 generalize (y * y) % 2147483587=z at *
 simp only [Q]
 refine ⟨J,?_⟩
 exact q _ _ (yN _ (by omega)) (yA _ J) ⟨_,_,_,rfl,by omega,by omega⟩
def ab2:eZ:=λas R=>∃c k:Int,as=[.d (.int c),.d (.int k)]/\0<=k/\∀h,dD k h->R (.ro h) as
theorem ab3 (T:Zs K mg cs):Ok P w base 1 T.mX ab2:=by
 refine T.mX.F.gC abe (λas R h=>?_) (λz A outer s H E C as R D n h=>?_)
 ·obtain ⟨_,_,rfl,_⟩:=h;rfl
 have B:=n.units
 obtain ⟨c,k,rfl,k0,q⟩:=h
 refine ⟨_,(bh (bx (Dr (qv 0) (FQ qi qi)) (aL (bI (bG (a3 (bV (qv 0) (FQ qi qi)) qi (qv 1))))) aP)
    (aL (bI (bG (a3 (qv 0) qi (qv 1)))))),?_⟩;simp only [Q,and_assoc]
 refine eX (λc=>?_) (λc=>?_)
 ·exact q _ ⟨_,_,_,rfl,k0,yx _⟩
 ·exact q _ ⟨_,_,_,rfl,k0,yx _⟩
theorem Y5:∀k:Nat,k<40->(MulOk (Str.ofString "0") (k:Int)/\(Str.ofString "1").length+(Txt.mul (Str.ofString "0") (k:Int)).length<=100000)/\intText? (Str.ofString "1"++Txt.mul (Str.ofString "0") (k:Int))=some (10 ^ k)/\(Str.ofString "1"++Txt.mul (Str.ofString "0") (k:Int)).length<=640:=by unfold MulOk;decide
theorem Tj:∀k:Nat,k<40->MulOk (Str.ofString "9") ((k:Int)+1)/\intText? (Txt.mul (Str.ofString "9") ((k:Int)+1))=some (10 ^ (k+1) - 1)/\(Txt.mul (Str.ofString "9") ((k:Int)+1)).length<=640:=by unfold MulOk;decide
theorem pow10 {a b:Nat} (h:a<=b):(10:Int) ^ a<=10 ^ b:=M.bD (by decide) h
def S_o:eZ:=λas R=>∃(h:List D) (m:Int) (z:Nat),as=[.bor h,.d (.int (z:Int))]/\dD m h/\m<=10 ^ 5/\1<=z/\z<=40/\∀(g:Int) h',0<=g->g<=10 ^ z->dD (m+100) h'->R (.rd (.int g)) [.bor h',.d (.int (z:Int))]
theorem afE (T:Zs K mg cs):Ok P w base 2 T.gY S_o:=by
 have O:=Ti P w base T
 refine T.gY.F.gC BP (λas R h=>?_) (λcdv A outer s H E C as R Y Z h=>?_)
 ·obtain ⟨_,_,_,rfl,_⟩:=h;rfl
 have hu:=Z.units
 obtain ⟨h,m,z,rfl,hd,m6,z1,z2,q⟩:=h
 refine ⟨_,(bh (aU (i:=2) BP.nd rfl lc (cT qi (ak (aj Y T.aM O Z.m (a2 (qv 0) (qv 1))))))
    (bh (aU (i:=3) BP.nd rfl lc (ak (aj Y T.aM O Z.m (a2 (qv 0) qi))))
    (bh (bx (dh Y hu (qv 3) qi) (sr (cT (nY rfl T.jK (a1 (j4 qs (sG qs (bV (qv 2) qi))))) (ak (aj Y T.aM O Z.m (a2 (qv 0) qi))))) aP)
    (bh (bx (dh Y hu (qv 3) qi) (sr (bV (nY rfl T.jK (a1 (sG qs (qv 2)))) (ak (aj Y T.aM O Z.m (a2 (qv 0) qi))))) aP)
    (bh (aU (i:=4) BP.nd rfl lc qi)
    (bh (nR zL rfl (nP rfl T.fG (a1 (qv 2))) (aH (i:=5) BP.nd rfl lc) (bh (aU (i:=6) BP.nd rfl lc (ak (aj Y T.aM O Z.m (a2 (qv 0) qi))))
    (bh (bx (dh Y hu (ak (aj Y T.aM O Z.m (a2 (qv 0) qi))) qi) (aL (aU (i:=6) BP.nd rfl lc (jV qi (nM (qv 3) qi)))) aP)
    (aL (aU (i:=4) BP.nd rfl lc (cT (jV qi (qv 4)) (qv 6)))))))
    (sr (qv 4)))))))),?_⟩
 refine aq λkk B=>?_
 simp only [R,uW]
 refine ⟨m,hd,by omega,by omega,by omega,λl0 h1 l00 l01 hd1=>B _ ?_⟩
 obtain ⟨l,rfl⟩:=zR l00
 have p1:=pow10 (show l+1<=z by omega)
 rw [zJ] at p1
 have p0:=M.aC (show (0:Int)<10 by decide) l
 refine aq λkk B=>?_
 simp only [R,uW]
 refine ⟨_,hd1,by omega,λw h2 w0 w1 hd2=>B _ ?_⟩
 refine aq λkk B=>?_
 simp only [R,uW]
 refine eX (λc=>?_) (λc=>B _ ?_)
 ·obtain ⟨⟨a1,a2⟩,a3,a4⟩:=Y5 l (by omega)
  rw [show (1:Int)+(l:Int) - 1=(l:Int) by omega]
  refine ⟨a1,a2,_,a3,a4,_,hd2,by omega,λg h3 g0 g1 J=>?_⟩
  exact q _ _ (by omega) (by omega) (J.mono (by omega))
 refine aq λkk B=>?_
 simp only [R,uW]
 refine eX (λc=>?_) (λc=>B _ ?_)
 ·obtain ⟨a1,a3,a4⟩:=Tj l (by omega)
  rw [show (1:Int)+(l:Int)=(l:Int)+1 by omega]
  rw [zJ] at a3
  refine ⟨a1,_,a3,a4,_,hd2,by omega,λg h3 g0 g1 J=>?_⟩
  exact q _ _ (by omega) (by omega) (J.mono (by omega))
 refine aq λkk B=>?_
 simp only [R]
 refine B _ ?_
 obtain ⟨I,hI⟩:∃I:Nat->aQ->Prop,I=λ(i:Nat) p=>∃(h3:List D) (g:Int) (w5 w6:Option D),dD (m+2+2 * (i:Int)) h3/\0<=g/\g<10 ^ i/\p=[some (.bor h3),some (.d (.int (z:Int))),some (.d (.int (1+(l:Int)))),some (.d (.int w)),some (.d (.int g)),Option.map Sl.d w5,Option.map Sl.d w6]:=⟨_,rfl⟩
 refine cV (sE (n:=l+1) (item:=λi=>.int (i:Int)) (p1:=_) (λQ h=>by
  simp only [Q]
  rw [show (1+(l:Int)).toNat=l+1 by omega]
  exact ⟨by omega,by omega,h⟩) I (by rw [hI];exact ⟨h2,0,none,none,hd2.mono (by omega),by decide,by decide,rfl⟩) ?_ ?_)
 ·intro i p hi hp
  rw [hI] at hp
  obtain ⟨h3,g,w5,w6,J,g0,g1,rfl⟩:=hp
  simp only [Hg]
  refine aq λkk B=>?_
  simp only [R,uW]
  refine ⟨_,J,by omega,λx h4 x0 x1 hd4=>B _ ?_⟩
  have nx:∀(y:Int) h5,0<=y->y<=9->dD (m+2+2 * (i:Int)+1+1) h5->I (i+1) [some (.bor h5),some (.d (.int (z:Int))),some (.d (.int (1+(l:Int)))),some (.d (.int w)),some (.d (.int (10 * g+y))),some (.d (.int (i:Int))),some (.d (.int y))]:=λy h5 y0 y1 U=>by
   rw [hI]
   refine ⟨h5,_,some _,some _,U.mono (by omega),by omega,?_,rfl⟩
   rw [zJ];omega
  have e0:=yN w (show (2:Int)≠0 by decide)
  have e1:=yA w (show (0:Int)<2 by decide)
  refine aq λkk B=>?_
  simp only [R,uW]
  refine ⟨_,hd4,by omega,λg' h5 _ _ U=>?_⟩
  refine eX (λc=>?_) (λc=>?_)
  ·refine B _ ?_
   simp only [Q]
   exact nx _ _ (by omega) (by omega) U
  ·refine B _ ?_
   simp only [Q]
   exact nx _ _ (by omega) (by omega) U
 ·intro p hp
  rw [hI] at hp
  obtain ⟨h3,g,w5,w6,J,g0,g1,rfl⟩:=hp
  simp only [Hh]
  rw [zJ] at g1
  exact q _ _ g0 (by omega) (J.mono (by omega))
def S_B:eZ:=λas R=>∃n b:Int,as=[.d (.int n),.d (.int b)]/\0<=n/\n<M.sZ/\2<=b/\b<=36/\R (.ro ((M.fg b n).map D.int)) as
theorem ab4 (T:Zs K mg cs):Ok P w base 1 T.gj S_B:=by
 refine T.gj.F.gC Yy (λas R h=>?_) (λcdv A outer s H E C as R Y hr h=>?_)
 ·obtain ⟨_,_,rfl,_⟩:=h;rfl
 have hu:=hr.units
 obtain ⟨n,b,rfl,O,n1,Z,b1,q⟩:=h
 refine ⟨_,(bh (gG (i:=2) Yy.nd rfl lc (bG (a1 (nM (qv 0) (qv 1)))))
    (bh (Ih zL (Dr (qv 0) (qv 1)) (bh (aU (i:=0) Yy.nd rfl lc (iM (qv 0) (qv 1)))
    (aL (nO (gn Y (pv 2) (a1 (nM (qv 0) (qv 1))))))))
    (aL (bI (K6 Y (qv 2)))))),?_⟩
 simp only [Hh]
 refine ⟨show 0<b by omega,?_⟩
 simp only [Hh]
 dsimp only
 refine cV ?_
 obtain ⟨I,J⟩:∃I:aQ->Prop,I=(λp=>∃(B:List Int) (z:Int),p=[some (.d (.int z)),some (.d (.int b)),some (.own ((B++[z % b]).map D.int))]/\M.IK b n B z):=⟨_,rfl⟩
 refine kY I (λp=>match p[0]? with|some (some (Sl.d (D.int r)))=>r.toNat|_=>0) (by rw [J];exact ⟨[],n,rfl,M.IK.start Z O⟩) ?_
 intro p U
 rw [J] at U
 obtain ⟨B,z,rfl,g⟩:=U
 have len:=g.len (by rw [<-M.lA];exact n1)
 simp only [Hh]
 refine pK (λc=>?_) (λc=>?_)
 ·have:=Int.ediv_lt_self_of_pos_of_ne_one (show 0<z by omega) (show b≠1 by omega)
  simp only [Hh]
  refine ⟨⟨by omega,.inl (by omega)⟩,?_⟩
  simp only [Hh]
  refine ⟨show 0<b by omega,?_⟩
  simp only [Hh]
  refine ⟨by rw [zd,zj,yd];omega,?_⟩
  simp only [Hh]
  refine ⟨by rw [J];exact ⟨B++[z % b],z / b,by rw [yf (l₂:=[z / b % b])];rfl,g.turn c⟩,show (z / b).toNat<z.toNat by omega⟩
 ·have e:((B++[z % b]).map D.int).reverse=(M.fg b n).map D.int:=by
   rw [<-(g.done (by omega)).fg Z O,xr,Int.emod_eq_of_lt g.l0 (by omega)]
  simp only [Hh]
  rw [<-e] at q
  exact q
def S_r:eZ:=λas R=>∃n b:Int,as=[.d (.int n),.d (.int b)]/\0<=n/\n<M.sZ/\2<=b/\b<=36/\R (.rd (.bl (M.bQ b n))) as
theorem ab5 (T:Zs K mg cs):Ok P w base 2 T.dO S_r:=by
 have B:=ab4 P w base T
 refine T.dO.F.gC abt (λas R h=>?_) (λU A outer s H E C as R z I h=>?_)
 ·obtain ⟨_,_,rfl,_⟩:=h;rfl
 have O:=I.units
 obtain ⟨n,b,rfl,J,n1,Z,Y,q⟩:=h
 refine ⟨_,(bh (aU (i:=2) abt.nd rfl lc (ak (aj z T.gj B I.m (a2 (qv 0) (qv 1)))))
    (sr (T9 z O (qv 2) (ak (K6 z (qv 2)))))),?_⟩
 simp only [Hh]
 refine ⟨J,n1,Z,Y,?_⟩
 simp only [Hh]
 refine ⟨xM.ints _,by rw [<-xr];exact xM.ints _,?_⟩
 simp only [Hh]
 have e:Bg (.lst ((M.fg b n).map D.int)) (.lst ((M.fg b n).map D.int).reverse)=M.bQ b n:=by
  rw [<-xr,jg];rfl
 rw [<-e] at q
 exact q
def S_w:eZ:=λas R=>∃ns:List Int,as=[.d (.lst (ns.map D.int))]/\Wz ns/\R (.rd (.str (wt ns))) as
theorem ab6 (T:Zs K mg cs):Ok P w base 1 T.dZ S_w:=by
 refine T.dZ.F.gC aeW (λas R h=>?_) (λY A outer s H E C as R J U h=>?_)
 ·obtain ⟨_,rfl,_⟩:=h;rfl
 have O:=U.units
 obtain ⟨ns,rfl,B,q⟩:=h
 have few:=B.few
 refine ⟨_,(sr (jt (aat J O (qv 0) (ak (bG dY))) qs (sS J qs (a1 (ak (mF (N:=["number","way"]) (k:=1) (a_.of (show g_ (aa s_w) ["way"] _ ["number","way"] 1 from ⟨by rfl,by decide,by decide,by rfl,by decide,by decide,by decide,by decide⟩)) rfl (fM J (qv 0)) (λZ s H fp=>(d8 (i:=0) (by decide) (show List.Nodup (["number","way"]:List Str) by decide) rfl (Or.inl rfl) (Or.inr rfl))) (λZ s H fp=>jw) (λZ s H fp=>(bM rfl T.dH (a1 (qv 0)))))))))),?_⟩
 simp only [Hh]
 refine ⟨xM.ints _,xM.ints [],?_⟩
 simp only [Hh]
 unfold wt at q
 refine RX (λz=>?_) (λz=>?_)
 ·rw [zm (yY ((jg ns []).symm.trans z))] at q
  simp only [Hh]
  exact q
 rw [zi (of_decide_eq_false ((jg ns []).symm.trans z))] at q
 simp only [S]
 refine comp_map (n:=(ns.map D.int).length) (item:=λi=>(ns.map D.int).getD i .non) (p1:=_) (λQ h=>by simp only [Hh];exact h) (by rw [zd];omega) (λi=>.str (TX.tx (ns.getD i 0))) (λi R hi h=>?_) ?_
 ·rw [zd] at hi
  rw [getD_ints hi] at h ⊢
  have I:=B.at hi
  simp only [Hh]
  exact ⟨I.lg,h⟩
 rw [zd,tW]
 simp only [Hh]
 exact ⟨oR (by decide) (λn I=>⟨by have:=(B.jH n I).1;omega,(B.jH n I).2⟩) few,q⟩
theorem Dk.kp {C:Pc} {H:Hp} {cl x:Addr} {b:Int} (h:Dk cl C.H0 x b) (h0:C.bs=[]) (kp:Kp C H):Dk cl H x b:=by
 obtain ⟨⟨dx,e⟩,r⟩:=h
 exact ⟨⟨dx,kp _ _ e λq n=>by rw [h0] at n;cases n⟩,r⟩
theorem Fb (b:Int):List.lookup (Str.ofString "say") [((Str.ofString "base"),V.int b)]=none:=by
 rw [zV,show ((Str.ofString "say") == (Str.ofString "base"))=false by decide];rfl
inductive Named (cs:XA):Addr->Str->Prop
 | command:Named cs cs.bH "NoCommand"
 | base:Named cs cs.fQ "NoBase"
 | mirror:Named cs cs.cF "NoMirror"
 | place:Named cs cs.dz "NoPlace"
inductive Fd (cs:XA) (b:Int) (w:Str):D->Prop
 | good {f:Str} {ns:List Int}:TX.rowOf w=some (f,ns)->Good b f ns->Fd cs b w (.str (ans b f ns))
 | bad {Cl:Addr} {du:Str}:Bad cs b (.str w) Cl->Named cs Cl du->Fd cs b w (.tup [.str du])
def S_i (cs:XA) (cl:Addr):Rk:=λH as R=>∃(x:Addr) (b:Int) (w:Str) (d:D),as=[.d (.atom (.ref x)),.d (.str w)]/\Dk cl H x b/\AT 50000 w/\Fd cs b w d/\R (.rd d) as
theorem afF (T:Zs K mg cs):OkH P w base 26 T.dN (S_i cs T.cl):=by
 have B:=PB P w base T
 refine T.dN.F.okH um (λH as R h=>?_) (λcdv A outer s H E C as R hK Y U J h=>?_)
 ·obtain ⟨_,_,_,_,rfl,_⟩:=h;rfl
 have hu:=J.units
 have n:=Tf P w base T
 obtain ⟨x,b,w,d,rfl,z,wa,hc,q⟩:=h
 have h0:C.bs=[]:=Ni (ds:=[.atom (.ref x),.str w]) U
 subst Y
 have D:=z
 obtain ⟨⟨dx,Z⟩,b0,b1⟩:=D
 refine ⟨_,(bh (aU (i:=2) um.nd rfl lc qs)
    (bh (Yd (λF0 pins E XE lk=>(aL (aU (i:=2) um.nd rfl lc (ak (aaF (Nk hK (qv 0) T.cls T.say B J.m T.YC (a1 (qv 1))) (Nm hK (qv 0) T.cls T.say n J.m T.YC lk (a1 (qv 1)))))))) (.cons T.BJ (λF0 pins A=>(aL (aU (i:=2) um.nd rfl lc (eO (a1 qs))))) (.cons T.tM (λF0 pins A=>(aL (aU (i:=2) um.nd rfl lc (eO (a1 qs))))) (.cons T.pO (λF0 pins A=>(aL (aU (i:=2) um.nd rfl lc (eO (a1 qs))))) (.cons T.eV (λF0 pins A=>(aL (aU (i:=2) um.nd rfl lc (eO (a1 qs))))) .nil)))))
    (sr (qv 2)))),?_⟩
 refine aq λk0 I=>?_
 simp only [R]
 refine I _ ?_
 clear I k0
 cases hc with
 | good h1 h2=>
  show _\/_
  refine .inl ?_
  simp only [Hh]
  refine ⟨_,_,_,rfl,Z,h0,Fb b,?_⟩
  simp only [Hh]
  intro H kp
  show Exists _
  refine ⟨x,b,w,_,_,rfl,z.kp h0 kp,wa,h1,h2,?_⟩
  simp only [Hh]
  exact q
 | bad h1 hn=>
  refine aq λkk O=>?_
  simp only [R,U7,U8]
  refine .inr ⟨dx,_,Z,h0,Fb b,_,λH kp=>⟨b,z.kp h0 kp,h1⟩,?_⟩
  rename_i du
  have go:=O [some (.d (.atom (.ref x))),some (.d (.str w)),some (.d (.tup [.str du]))] (by simp only [Hh];exact q)
  cases hn with
  | command=>exact ⟨_,T.mV,_,T.kj,_,T.lK,_,T.jM,go⟩
  | base=>exact ⟨_,T.qw,go⟩
  | mirror=>exact ⟨_,T.oG,_,T.lM,go⟩
  | place=>exact ⟨_,T.pP,_,T.mW,_,T.oH,go⟩
def ab7 (cl:Addr):Cu:=λW ds R=>∃(x dx:Addr) (b n:Int) (w:Str),ds=[.atom (.ref x),.str w]/\W x=some (.ins cl dx [("base",.int b)])/\AT 50000 w/\TX.rowOf w=some (("base":Str),[n])/\2<=n/\n<=36/\R (.str "ok") (upd W x (.ins cl dx [("base",.int n)]))
theorem ab8 (T:Zs K mg cs):YF P w base 26 T.dN (ab7 T.cl):=by
 have D:=PB P w base T
 refine T.dN.F.Uc um (λW ds R h=>?_) (λZ A outer s H E C W ds R Y J h=>?_)
 ·obtain ⟨_,_,_,_,_,rfl,_⟩:=h;rfl
 have hu:=J.units
 have z:=Tg P w base T
 obtain ⟨x,dx,b,n,w,rfl,I,O,B,U,n1,q⟩:=h
 refine ⟨_,(aR (aZ (λW ok=>(aU (i:=2) um.nd rfl lc qs)))
    (aR (Ye (λpins E=>(cU (qd (i:=2) um.nd rfl lc (X4 (ds0:=[]) Y (λW ok=>(qv 0)) T.cls T.say z J.m T.YC (λW ok=>(a1 (qv 1))))))))
    (cU (aZ (λW ok=>(bI (i_ (qv 2)))))))),?_⟩
 simp only [Hh]
 refine ⟨_,_,_,rfl,I,Fb b,?_⟩
 simp only [Hh]
 show Exists _
 refine ⟨x,dx,b,n,w,rfl,I,O,B,U,n1,?_⟩
 simp only [Hh]
 exact q
def atB (m:Nat) (t:Str):Bool:=t.cps.all (·<128) && decide (t.length<=m)
theorem AT.Jo {m:Nat} {t:Str} (h:atB m t=true):AT m t:=by
 unfold atB at h
 rw [yo,yl] at h
 exact h
theorem AT.mono {m n:Nat} {t:Str} (h:AT m t) (l:m<=n):AT n t:=⟨h.1,zQ h.2 l⟩
def NL (L:List D):Prop:=∀d∈L,∃t,d=.str t/\AT 50 t/\TX.rowOf t=none
theorem NL.nil:NL []:=λd h=>absurd h yJ
theorem NL.cons {t:Str} {L:List D} (h:(atB 50 t && decide (TX.rowOf t=none))=true) (g:NL L):NL (.str t::L):=λd hd=>by
 rw [yo,yl] at h
 rcases zr.mp hd with rfl|hd
 ·exact ⟨t,rfl,.Jo h.1,h.2⟩
 ·exact g d hd
theorem NL.app {L M:List D} (h:NL L) (g:NL M):NL (L++M):=λd hd=>by
 rcases zN.mp hd with hd|hd
 ·exact h d hd
 ·exact g d hd
theorem NL.at {L:List D} (h:NL L) {g:Int} (z:0<=g) (B:g<L.length):∃t,iy L g=some (.str t)/\AT 50 t/\TX.rowOf t=none:=by
 obtain ⟨k,rfl⟩:=zR z
 have n:k<L.length:=by omega
 obtain ⟨t,e,a⟩:=h L[k] (yh n)
 exact ⟨t,by rw [gU (zg n),e],a⟩
def S_V (cs:XA):eZ:=λas R=>∃(h:List D) (m:Int),as=[.bor h]/\dD m h/\m<=10 ^ 5/\∀(w n:Str) h',AT 50000 w->(∀b,Fd cs b w (.tup [.str n]))->dD (m+2) h'->R (.rd (.tup [.str w,.tup [.str n]])) [.bor h']
theorem afH (T:Zs K mg cs):Ok P w base 2 T.pQ (S_V cs):=by
 have U:=Ti P w base T
 refine T.pQ.F.gC Sv (λas R h=>?_) (λcdv A outer s H E C as R O z h=>?_)
 ·obtain ⟨_,_,rfl,_⟩:=h;rfl
 have hu:=z.units
 obtain ⟨h,m,rfl,hd,m6,q⟩:=h
 refine ⟨_,(bh (bx (dh O hu (ak (aj O T.aM U z.m (a2 (qv 0) qi))) qi) (sr (eO (a2 (pB O (ak (bG (aN qs (a3 qs qs qs)))) (ak (aj O T.aM U z.m (a2 (qv 0) qi))) (λ_ _=>rfl)) (eO (a1 qs))))) aP)
    (@bh _ _ _ _ _ _ (@gG _ _ _ _ 1 _ _ _ Sv.nd rfl lc (@bG _ _ _ _ _ (@aS _ _ _ _ _ _ _ (@aS _ _ _ _ _ _ _ (@aS _ _ _ _ _ _ _ (@aS _ _ _ _ _ _ _ (@aS _ _ _ _ _ _ _ (@aS _ _ _ _ _ _ _ (@aS _ _ _ _ _ _ _ (@aS _ _ _ _ _ _ _ (@aS _ _ _ _ _ _ _ dY rfl) rfl) rfl) rfl) rfl) rfl) rfl) rfl) rfl)) (by rfl) (by first|exact .inl rfl|exact .inr rfl|assumption))
    (bh (gG (i:=1) Sv.nd rfl lc (Ar (qv 1) (ak (bG (aN qs (aN qs (aN qs (aN qs (a3 qs qs qs)))))))))
    (bh (nO (gn O (pv 1) (a1 qs)))
    (bh (gG (i:=1) Sv.nd rfl lc (Ar (qv 1) (ak (bG (a3 (j4 (j4 qs (sG qs qi)) qs) (j4 (j4 qs (sG qs qi)) qs) (j4 qs (sG qs qi)))))))
    (sr (eO (a2 (pB O (qv 1) (ak (aj O T.aM U z.m (a2 (qv 0) qi))) (λ_ _=>rfl)) (eO (a1 qs)))))))))),?_⟩
 refine aq λkk hkk=>?_
 simp only [R,uW]
 refine ⟨_,hd,by omega,λw h1 w0 w1 Z=>?_⟩
 refine eX (λc=>?_) (λc=>hkk _ ?_)
 ·refine ⟨_,Z,by omega,λg h2 g0 g1 J=>?_⟩
  have four:∃(t:Str) (n:Int),iy [D.str (Str.ofString "base 1"),D.str (Str.ofString "base 37"),D.str (Str.ofString "base 0"),D.str (Str.ofString "base 99")] g=some (.str t)/\AT 50000 t/\TX.rowOf t=some (("base":Str),[n])/\¬(2<=n/\n<=36):=by
   have:g=0\/g=1\/g=2\/g=3:=by omega
   rcases this with rfl|rfl|rfl|rfl
   ·exact ⟨_,1,rfl,.Jo (by decide),by decide,by decide⟩
   ·exact ⟨_,37,rfl,.Jo (by decide),by decide,by decide⟩
   ·exact ⟨_,0,rfl,.Jo (by decide),by decide,by decide⟩
   ·exact ⟨_,99,rfl,.Jo (by decide),by decide,by decide⟩
  obtain ⟨t,n,et,ta,z,hn⟩:=four
  exact ⟨_,et,q t _ h2 ta (λb=>.bad (.Bx ta z hn) .base) (J.mono (by omega))⟩
 refine cD (λp=>∃L:List D,NL L/\L.length=9/\p=[some (.bor h1),some (.own L)]) (λk I=>?_) ?_
 ·simp only [Hg]
  refine I _ ⟨_,?_,rfl,rfl⟩
  repeat' (first|exact NL.nil|refine NL.cons (by decide) ?_)
 rintro p ⟨L,B,Y,rfl⟩
 refine cD (λp=>∃L:List D,NL L/\L.length=16/\p=[some (.bor h1),some (.own L)]) (λk I=>?_) ?_
 ·simp only [R]
  refine ⟨by omega,I _ ⟨_,B.app ?_,by rw [zj,Y];rfl,rfl⟩⟩
  repeat' (first|exact NL.nil|refine NL.cons (by decide) ?_)
 rintro p ⟨L,B,Y,rfl⟩
 refine cD (λp=>∃L:List D,NL L/\L.length=17/\p=[some (.bor h1),some (.own L)]) (λk I=>?_) ?_
 ·simp only [Hg]
  refine ⟨by omega,I _ ⟨_,B.app ?_,by rw [zj,Y];rfl,rfl⟩⟩
  repeat' (first|exact NL.nil|refine NL.cons (by decide) ?_)
 rintro p ⟨L,B,Y,rfl⟩
 refine cD (λp=>∃L:List D,NL L/\L.length=20/\p=[some (.bor h1),some (.own L)]) (λk I=>?_) ?_
 ·simp only [R]
  refine ⟨by unfold MulOk;decide,by decide,by decide,by unfold MulOk;decide,by decide,by decide,by unfold MulOk;decide,by decide,by omega,I _ ⟨_,B.app ?_,by rw [zj,Y];rfl,rfl⟩⟩
  repeat' (first|exact NL.nil|refine NL.cons (by decide) ?_)
 rintro p ⟨L,B,Y,rfl⟩
 simp only [Q,uW]
 refine ⟨_,Z,by omega,λg h2 g0 g1 J=>?_⟩
 obtain ⟨t,et,ta,z⟩:=B.at g0 (by omega)
 have ta:=ta.mono (show 50<=50000 by decide)
 exact ⟨_,et,q t _ h2 ta (λb=>.bad (.row ta z) .command) (J.mono (by omega))⟩
def dl (L:List (List Int)):List D:=L.map λw=>.lst (w.map D.int)
def Fe (z:Nat):eZ:=λas R=>∃(n:Nat) (b:Int) (k m:Nat),as=[.d (.int (n:Int)),.d (.int b),.d (.int (k:Int)),.d (.int (m:Int))]/\n<=300/\m<=300/\k<z/\k<=12/\2<=b/\b<=36/\M.al k m n<=95000/\∀r:Rt,r.val=.lst (dl (M.aw b k m (n:Int)))->R r as
def S_x:eZ:=Fe 13
theorem ab9 (T:Zs K mg cs):∀M0:Nat,Ok P w base (2+M0) T.eN (Fe M0):=by
 intro M0
 have G_r:=ab5 P w base T
 induction M0 with
 | zero=>
  refine bY.imp (sp:=DK K (Fe 0)) (T.eN.F.gC O3 (λas R h=>?_) (λcdv A outer s H E C as R Z hr h=>?_)) (λ_ _ _ _ h=>h)
  ·obtain ⟨_,_,_,_,rfl,_⟩:=h;rfl
  ·obtain ⟨n,b,N,m,rfl,_,_,h1,_⟩:=h;omega
 | succ M0 ih=>
  have G_x:=ih
  refine T.eN.F.gC (k:=2+M0) O3 (λas R h=>?_) (λcdv A outer s H E C as R Z hr h=>?_)
  ·obtain ⟨_,_,_,_,rfl,_⟩:=h;rfl
  have hu:=hr.units
  obtain ⟨n,b,k,m,rfl,n1,m1,k1,k2,b0,b1,alb,q⟩:=h
  refine ⟨_,(bh (bx (dh Z hu (qv 2) qi) (sr (jt (dh Z hu (qv 0) qi) (ak (bG (a1 (ak (bG dY))))) (ak (bG dY)))) aP)
    (bh (gG (i:=4) O3.nd rfl lc (bG dY))
    (bh (nR zL rfl (Ny rfl T.fG (a3 (Dy rfl rfl T.Ox (a2 (qv 0) (qv 3))) qi (aa0 qi))) (aH (i:=5) O3.nd rfl lc) (aL (bx (PW.pt (w_and (Dr (jV (qv 5) (qv 2)) (qv 0)) (Dt (gP (ak (aj Z T.dO G_r hr.m (a2 (qv 5) (qv 1)))))))) (aL (nR zL rfl (fM Z (ak (aj Z T.eN G_x hr.m (aN (bV (qv 0) (qv 5)) (a3 (qv 1) (bV (qv 2) qi) (qv 5)))))) (aH (i:=6) O3.nd rfl lc) (aL (nO (gn Z (pv 4) (a1 (ak (Ar (ak (bG (a1 (qv 5)))) (qv 6))))))))) aP)))
    (aL (mj (i:=4) (pv 4)))))),?_⟩
  refine aq λkk U=>?_
  simp only [R]
  refine eX (λc=>?_) (λc=>U _ ?_)
  ·obtain rfl:k=0:=by omega
   refine eX (λc2=>q _ ?_) (λc2=>q _ ?_)
   ·rw [M.aw_0,zm c2];rfl
   ·rw [M.aw_0,zi c2];rfl
  obtain ⟨k,rfl⟩:∃j,k=j+1:=⟨k - 1,by omega⟩
  refine aq λkk U=>?_
  simp only [R]
  refine U _ ?_
  obtain ⟨u,hu',u1,u2,u3⟩:∃u:Nat,((if (m:Int)<(n:Int) then (m:Int) else (n:Int))=(u:Int))/\u<=n/\u<=m/\M.aw b (k+1) m (n:Int)=M.aw b (k+1) u (n:Int):=by
   by_cases z:(m:Int)<(n:Int)
   ·exact ⟨m,by rw [zm z],by omega,zx _,rfl⟩
   ·exact ⟨n,by rw [zi z],zx _,by omega,M.Ot m (by omega)⟩
  rw [u3] at q
  have la:=M.aa9 b (k+1) m n
  rw [u3] at la
  obtain ⟨I,hI⟩:∃I:Nat->aQ->Prop,I=λ(i:Nat) p=>∃(pre:List (List Int)) (w5 J:Option D),pre++M.aw b (k+1) (u - i) (n:Int)=M.aw b (k+1) u (n:Int)/\p=[some (.d (.int (n:Int))),some (.d (.int b)),some (.d (.int ((k+1:Nat):Int))),some (.d (.int (m:Int))),some (.own (dl pre)),Option.map Sl.d w5,Option.map Sl.d J]:=⟨_,rfl⟩
  refine cV (sE (n:=u) (item:=λi=>.int ((u:Int) - (i:Int))) (p1:=_) (λQ h=>by
   simp only [Q]
   rw [hu',show ((u:Int) - 0).toNat=u by omega]
   exact ⟨by omega,by omega,h⟩) I (by rw [hI];exact ⟨[],none,none,rfl,rfl⟩) ?_ ?_)
  ·intro i p hi hp
   rw [hI] at hp
   obtain ⟨pre,w5,J,B,rfl⟩:=hp
   obtain ⟨f,hf⟩:∃f,u - i=f+1:=⟨u - i - 1,by omega⟩
   rw [show (u:Int) - (i:Int)=(f:Int)+1 by omega]
   rw [hf,M.aw_s] at B
   have em:((f:Int)+1) * ((k+1:Nat):Int)=((f:Int)+1) * ((k:Int)+1):=rfl
   have O:∀J:Option D,¬(M.bQ b ((f:Int)+1)=true/\(n:Int)<=((f:Int)+1) * ((k:Int)+1))->I (i+1) [some (.d (.int (n:Int))),some (.d (.int b)),some (.d (.int ((k+1:Nat):Int))),some (.d (.int (m:Int))),some (.own (dl pre)),some (.d (.int ((f:Int)+1))),Option.map Sl.d J]:=λJ z=>by
    rw [zi (λy=>z ⟨y.1,y.2.2⟩),xy] at B
    rw [hI]
    exact ⟨pre,some _,J,by rw [show u - (i+1)=f by omega];exact B,rfl⟩
   simp only [Q]
   refine ⟨.inl ⟨by omega,by omega⟩,?_⟩
   refine eX (λc=>?_) (λc=>O _ λz=>c (em▸z.2))
   simp only [R,S_r]
   refine ⟨by omega,M.v_ (by omega),b0,b1,?_⟩
   cases hm:M.bQ b ((f:Int)+1) with
   | false=>exact O _ λz=>by rw [hm] at z;cases z.1
   | true=>
    have c':(n:Int)<=((f:Int)+1) * ((k:Int)+1):=c
    rw [zm ⟨hm,by omega,c'⟩] at B
    rw [zm rfl]
    generalize hL:M.aw b k (f+1) ((n:Int) - ((f:Int)+1))=L at B
    have lL:pre.length+L.length<=95000:=by
     have:=yn List.length B
     rw [zj,zj,zd] at this
     omega
    refine sE (n:=(dl L).length) (item:=λj=>(dl L).getD j .non) (p1:=_) (λQ h=>by
     simp only [Q,Fe]
     have e0:((n - (f+1):Nat):Int)=(n:Int) - ((f:Int)+1):=by omega
     refine ⟨n - (f+1),e0.symm,k,by omega,f+1,rfl,by omega,by omega,by omega,by omega,b0,b1,zQ (M.aba (by omega) (by omega) (by omega)) alb,λr hr=>⟨_,hr,?_⟩⟩
     rw [e0,hL]
     exact h) (λj p=>∃J:Option D,p=[some (.d (.int (n:Int))),some (.d (.int b)),some (.d (.int ((k+1:Nat):Int))),some (.d (.int (m:Int))),some (.own (dl (pre++(L.take j).map λr=>((f:Int)+1)::r))),some (.d (.int ((f:Int)+1))),Option.map Sl.d J]) ⟨J,by rw [List.take_zero,List.map_nil,zW]⟩ ?_ ?_
    ·rintro j _ Y ⟨J,rfl⟩
     rw [show (dl L).length=L.length from zd _] at Y
     have ej:(dl L).getD j .non=.lst ((L.getD j []).map D.int):=by
      unfold dl
      rw [zn,zO,zg Y,zn,zg Y];rfl
     rw [ej]
     have wl:(L.getD j []).length=k:=M.Yq b k (f+1) ((n:Int) - ((f:Int)+1)) _ (by rw [hL,zn,zg Y];exact yh Y)
     have tk:L.take (j+1)=L.take j++[L.getD j []]:=by rw [List.take_succ_eq_append_getElem Y,zn,zg Y];rfl
     simp only [Q]
     refine ⟨by rw [zd];omega,?_,?_,some _,rfl⟩
     ·unfold dl
      rw [zd,zj,zd,yD];omega
     ·unfold dl
      rw [tk,yf (l₁:=L.take j),<-yH,yf (l₂:=List.map _ [L.getD j []])];rfl
    ·rintro _ ⟨J,rfl⟩
     rw [show (dl L).length=L.length from zd _,List.take_length]
     show I (i+1) _
     rw [hI]
     exact ⟨_,some _,J,by rw [show u - (i+1)=f by omega,yH];exact B,rfl⟩
  ·intro p hp
   rw [hI] at hp
   obtain ⟨pre,w5,J,B,rfl⟩:=hp
   rw [Nat.sub_self,M.aw_n,zW] at B
   simp only [Q]
   subst B
   exact q _ rfl
theorem ace (T:Zs K mg cs):Ok P w base 15 T.eN S_x:=ab9 _ _ _ T 13
noncomputable def U9 (b:Int) (f:Str) (ns:List Int):D:=if f=("place":Str)/\M.bQ b (ns.getD 0 0)=false then .tup [.str "NoMirror"] else if f=("way":Str)/\M.cg true (M.bA b (ns.getD 0 0)).reverse (ns.getD 1 0).toNat (ns.getD 0 0)<=ns.getD 2 0 then .tup [.str "NoPlace"] else .str (ans b f ns)
theorem iT {b:Int} {f:Str} {ns:List Int} (h:f≠("place":Str)) (g:f≠("way":Str)):U9 b f ns=.str (ans b f ns):=by unfold U9;rw [zi (λz=>h z.1),zi (λz=>g z.1)]
theorem lF {f x:Str} {v bs:List Int} {r:List (Str × List Int)} (h:List.lookup f ((x,v)::r)=some bs):(f=x/\v=bs)\/List.lookup f r=some bs:=by
 rw [zV] at h
 by_cases z:f=x
 ·subst z;simp at h;exact .inl ⟨rfl,h⟩
 ·have:(f == x)=false:=by simpa using z
  rw [this] at h;exact .inr h
def S_y:eZ:=λas R=>∃(b n z:Int) (f:Str),as=[.d (.int b),.d (.str f),.d (.int n)]/\2<=b/\b<=36/\0<=n/\n<=z/\z<=10 ^ 40/\TX.BT.lookup f=some [z]/\f≠("base":Str)/\R (.rd (U9 b f [n])) as
theorem afI (T:Zs K mg cs):Ok P w base 24 T.fX S_y:=by
 have G_w:=ab6 P w base T
 have G_M:=abJ P w base T
 have G_u:=Pb P w base T
 have G_I:=abz P w base T
 have G_Y:=abB P w base T
 have G_v:=abC P w base T
 have G_r:=ab5 P w base T
 have afJ:=UT P w base T
 have G_G:=abH P w base T
 have G_q:=YK P w base T
 have G_x:=ace P w base T
 have G_B:=ab4 P w base T
 refine T.fX.F.gC aeY (λas R h=>?_) (λcdv A outer s H E C as R I hr h=>?_)
 ·obtain ⟨_,_,_,_,rfl,_⟩:=h;rfl
 have hu:=hr.units
 obtain ⟨b,n,bd,f,rfl,O,Y,U,nb,Zj,hb,Y6,q⟩:=h
 obtain ⟨n2,n3⟩:=lQ (yw nb Zj)
 have n1:=yw nb Zj
 have bt:∀{g:Str} {v:Int},f=g->TX.BT.lookup g=some [v]->n<=v:=λ{g v} e h=>by
  rw [e,h] at hb
  injection hb with hb;injection hb with hb;omega
 refine ⟨_,(bh (bx (dh I hu (qv 1) qs) (sr (sS I qs (a1 (ak (mF (N:=["figure","base","head","number"]) (k:=1) (a_.of (show g_ (aa s_y) ["base","head","number"] _ ["figure","base","head","number"] 1 from ⟨by rfl,by decide,by decide,by rfl,by decide,by decide,by decide,by decide⟩)) rfl (fM I (ak (aj I T.gj G_B hr.m (a2 (qv 2) (qv 0))))) (λZ s H fp=>(d8 (i:=0) (by decide) (show List.Nodup (["figure","base","head","number"]:List Str) by decide) rfl (Or.inl rfl) (Or.inr rfl))) (λZ s H fp=>jw) (λZ s H fp=>(bM rfl T.dH (a1 (qv 0))))))))) aP)
    (bh (bx (dh I hu (qv 1) qs) (sr (pB I (ak (bG (a2 qs qs))) (pC rfl T.jK (a1 (ak (aj I T.dO G_r hr.m (a2 (qv 2) (qv 0)))))) (λ_ _=>rfl))) aP)
    (bh (bx (dh I hu (qv 1) qs) (sr (bM rfl T.dH (a1 (ak (aj I T.fV G_u hr.m (a2 (qv 2) (qv 0))))))) aP)
    (bh (bx (dh I hu (qv 1) qs) (sr (bM rfl T.dH (a1 (ak (aj I T.jE G_I hr.m (a2 (qv 2) (qv 0))))))) aP)
    (bh (bx (dh I hu (qv 1) qs) (sr (bM rfl T.dH (a1 (ak (aj I T.lE G_Y hr.m (a2 (qv 2) (qv 0))))))) aP)
    (bh (bx (dh I hu (qv 1) qs) (sr (bM rfl T.dH (a1 (ak (aj I T.gf G_v hr.m (a2 (qv 2) (qv 0))))))) aP)
    (bh (bx (dh I hu (qv 1) qs) (sr (jt (gP (ak (aj I T.dO G_r hr.m (a2 (qv 2) (qv 0))))) (bM rfl T.dH (a1 (ak (aj I T.dJ G_q hr.m (a2 (qv 2) (qv 0)))))) (eO (a1 qs)))) aP)
    (bh (bx (dh I hu (qv 1) qs) (aL (bI (aj I T.dZ G_w hr.m (a1 (ak (aj I T.qY afJ hr.m (a2 (qv 2) (qv 0)))))))) aP)
    (bh (bx (PW.pt (w_and (dh I hu (qv 1) qs) (Dt (rT (qv 2) qi)))) (sr (bM rfl T.dH (a1 (fc I rfl T.fH (a1 (ak (aj I T.eN G_x hr.m (aN (qv 2) (aN (qv 0) (a2 qi (qv 2))))))))))) aP)
    (bh (bx (dh I hu (qv 1) qs) (sr (bM rfl T.dH (a1 (ak (aj I T.gh G_G hr.m (a2 (qv 2) (qv 0))))))) aP)
    (aL (bI (aj I T.dZ G_w hr.m (a1 (ak (aj I T.oM G_M hr.m (a2 (qv 2) (qv 0)))))))))))))))))),?_⟩
 refine aq λkk B=>?_
 simp only [Hg]
 refine qt (λz=>?_) (λz1=>B _ ?_)
 ·subst z
  rw [iT (by decide) (by decide),tX] at q
  have dg:=M.d9 O U
  have fl:=M.Ej O U n2
  simp only [S]
  refine Pr ?_
  simp only [Hh]
  refine ⟨U,n2,O,Y,?_⟩
  simp only [Hh]
  have fr:∀i,i<(M.fg b n).length->0<=(M.fg b n).getD i 0/\(M.fg b n).getD i 0<10 ^ 50:=λi hi=>by
   have:=dg.jH ((M.fg b n).getD i 0) (by rw [zn,zg hi];exact yh hi)
   exact ⟨this.1,Int.lt_of_lt_of_le this.2 (yw Y (by decide))⟩
  refine comp_map (n:=((M.fg b n).map D.int).length) (item:=λi=>((M.fg b n).map D.int).getD i .non) (p1:=_) (λQ h=>h) (by rw [zd];omega) (λi=>.str (TX.tx ((M.fg b n).getD i 0))) (λi R hi h=>?_) ?_
  ·rw [zd] at hi
   rw [getD_ints hi] at h ⊢
   simp only [Hh]
   exact ⟨(TX.eU (fr i hi).1 (fr i hi).2).lg,h⟩
  rw [zd,tW]
  simp only [Hh]
  exact ⟨oR (by decide) (λx hx=>⟨(dg.jH x hx).1,Int.lt_of_lt_of_le (dg.jH x hx).2 (yw Y (by decide))⟩) (by omega),q⟩
 refine aq λkk B=>?_
 simp only [Hg]
 refine qt (λz=>?_) (λz2=>B _ ?_)
 ·subst z
  rw [iT (by decide) (by decide),U5] at q
  simp only [Hh]
  refine ⟨U,n2,O,Y,?_⟩
  simp only [Hh]
  cases J:M.bQ b n with
  | true=>rw [J] at q;exact ⟨_,_,_,rfl,rfl,rfl,_,rfl,q⟩
  | false=>rw [J] at q;exact ⟨_,_,_,rfl,rfl,rfl,_,rfl,q⟩
 refine aq λkk B=>?_
 simp only [Hg]
 refine qt (λz=>?_) (λz3=>B _ ?_)
 ·subst z
  rw [iT (by decide) (by decide),Ci] at q
  simp only [Hh]
  refine ⟨U,n2,O,Y,λm J=>?_⟩
  simp only [Hh]
  refine ⟨uU J.mp.1 (Int.lt_of_le_of_lt J.le n3),?_⟩
  simp only [Hh]
  rw [M.iQ J λ_ h=>h.uniq J] at q;exact q
 refine aq λkk B=>?_
 simp only [Hg]
 refine qt (λz=>?_) (λz4=>B _ ?_)
 ·subst z
  rw [iT (by decide) (by decide),Cj] at q
  simp only [Hh]
  refine ⟨U,n2,O,Y,λm J=>?_⟩
  simp only [Hh]
  refine ⟨uU J.mp.1 (UW O Y U n1 J),?_⟩
  simp only [Hh]
  rw [M.iQ J λ_ h=>h.uniq J] at q;exact q
 refine aq λkk B=>?_
 simp only [Hg]
 refine qt (λz=>?_) (λz5=>B _ ?_)
 ·subst z
  rw [iT (by decide) (by decide),Ck] at q
  obtain ⟨c0,c1⟩:=Pu O Y U n1
  simp only [Hh]
  refine ⟨U,n2,O,Y,?_⟩
  simp only [Hh]
  refine ⟨(TX.eU c0 (xd c1 (by decide))).lg,?_⟩
  simp only [Hh]
  exact q
 refine aq λkk B=>?_
 simp only [Hg]
 refine qt (λz=>?_) (λz6=>B _ ?_)
 ·have n20:=bt z (v:=10 ^ 20) (by decide)
  subst z
  rw [iT (by decide) (by decide),U6] at q
  simp only [Hh]
  refine ⟨U,by omega,O,Y,λm J he hl=>?_⟩
  simp only [Hh]
  refine ⟨uU J.1 hl,?_⟩
  simp only [Hh]
  rw [M.iQ ⟨J,he⟩ λ_ h=>M.Oo O h.1 J (h.2.trans he.symm)] at q;exact q
 refine aq λkk B=>?_
 simp only [Hg]
 refine qt (λz=>?_) (λz7=>B _ ?_)
 ·subst z
  simp only [Hh]
  refine ⟨U,n2,O,Y,?_⟩
  simp only [Hh]
  unfold U9 at q
  refine RX (λJ=>?_) (λJ=>?_)
  ·have pl1:=M.N_ O Y ⟨U,J⟩ n1
   have pl0:0<=M.pl b n:=by rw [M.mO O U (M.AM.self ⟨U,J⟩)];exact E_ b n
   rw [zi (λy=>by have:=y.2;rw [show M.bQ b ([n].getD 0 0)=true from J] at this;cases this),zi (λy=>absurd y.1 (by decide)),Cm] at q
   simp only [Hh]
   refine ⟨⟨U,J⟩,n2,O,Y,?_⟩
   simp only [Hh]
   refine ⟨(TX.eU pl0 (xd pl1 (by decide))).lg,?_⟩
   simp only [Hh]
   exact q
  ·rw [zm ⟨rfl,J⟩] at q
   simp only [Hh]
   exact q
 refine aq λkk B=>?_
 simp only [Hg]
 refine qt (λz=>?_) (λz8=>B _ ?_)
 ·subst z
  rw [iT (by decide) (by decide),Px] at q
  simp only [Hh]
  refine ⟨U,n2,O,Y,λL hL=>?_⟩
  simp only [Hh]
  rw [M.iQ hL λ_ h=>h.uniq hL] at q
  exact ⟨U0 O n1 hL,q⟩
 have two:f=("two":Str)->R (.rd (.str (TX.tx ((M.tw b n).length:Int)))) [.d (.int b),.d (.str f),.d (.int n)]:=λz=>by
  subst z
  rw [iT (by decide) (by decide),Py] at q;exact q
 have twl:f=("two":Str)->((M.tw b n).length:Int).natAbs.log2<1920:=λz=>by
  have n6:=bt z (v:=10 ^ 6) (by decide)
  have h0:(0:Int)<=n / 2:=by omega
  have:=kJ (b:=b) O Y h0 (by omega)
  have l:(M.tw b n).length<=(M.bA b (n / 2)).length:=List.length_filter_le _ _
  exact (TX.eU (by omega) (by omega)).lg
 refine cD (λp=>p=[some (.d (.int b)),some (.d (.str f)),some (.d (.int n))]) (λk hk=>?_) ?_
 ·simp only [Hg]
  refine qt (λz=>?_) (λz9=>?_)
  ·simp only [Hh]
   refine pK (λc=>?_) (λc=>?_)
   ·have q:=two z
    have tl:=twl z
    obtain ⟨N,rfl⟩:=zR U
    simp only [Q,S_x,Fe]
    have e:(((dl (M.aw b 2 N (N:Int))).length:Nat):Int)=((M.tw b (N:Int)).length:Int):=by
     unfold dl
     rw [zd]
     exact (M.Oq b 2 N N).1.trans (M.tw_cg U).symm
    refine ⟨by omega,by omega,O,Y,M.Ow (.inl ⟨by decide,by omega⟩),λr hr=>⟨dl (M.aw b 2 N (N:Int)),by rw [hr],?_⟩⟩
    rw [e]
    exact ⟨tl,q⟩
   ·simp only [Hh]
    exact hk _ rfl
  ·simp only [Hh]
   exact hk _ rfl
 rintro p rfl
 refine aq λkk B=>?_
 simp only [Hg]
 refine qt (λz=>?_) (λz9=>B _ ?_)
 ·have n6:=bt z (v:=10 ^ 6) (by decide)
  have q:=two z
  have tl:=twl z
  simp only [Hh]
  refine ⟨U,n6,O,Y,?_⟩
  simp only [Hh]
  refine ⟨tl,?_⟩
  simp only [Hh]
  exact q
 have zz:f=("fewest":Str):=by
  unfold TX.BT at hb
  iterate 9 (rcases lF hb with ⟨y,_⟩|hb;· first|exact absurd y Y6|exact absurd y z1|exact absurd y z2|exact absurd y z3|exact absurd y z4|exact absurd y z5|exact absurd y z6|exact absurd y z7|exact absurd y z8)
  rcases lF hb with ⟨y,_⟩|hb
  ·exact absurd y z9
  rcases lF hb with ⟨y,_⟩|hb
  ·exact y
  rcases lF hb with ⟨_,e⟩|hb
  ·cases (e)
  rcases lF hb with ⟨_,e⟩|hb
  ·cases (e)
  cases hb
 have n6:=bt zz (v:=10 ^ 6) (by decide)
 subst zz
 rw [iT (by decide) (by decide),uV] at q
 simp only [Hh]
 refine ⟨U,n6,O,Y,λL hL=>?_⟩
 simp only [Hh]
 rw [M.iQ hL λ_ h=>h.uniq hL] at q
 exact ⟨U3 O U n6 hL,q⟩
def Y7 (n k:Nat):Prop:=k<=2/\n<=300\/k=3/\n<=40\/k<=12/\n<=26
inductive lR:Str->List Int->Prop
 | base {n:Int}:2<=n->n<=36->lR "base" [n]
 | one {f:Str} {n bd:Int}:0<=n->n<=bd->bd<=10 ^ 40->TX.BT.lookup f=some [bd]->f≠("base":Str)->lR f [n]
 | ways {n k:Nat}:Y7 n k->lR "ways" [(n:Int),(k:Int)]
 | way {n k:Nat} {pl:Int}:Y7 n k->0<=pl->pl<=10 ^ 40->lR "way" [(n:Int),(k:Int),pl]
def bK (b:Int):HO:=.dK [(.inr ("base":Str),.int b)]
def S_S:Cu:=λW ds R=>∃(x:Addr) (b:Int) (f:Str) (ns:List Int),ds=[.atom (.ref x),.str f,.lst (ns.map D.int)]/\W x=some (bK b)/\2<=b/\b<=36/\lR f ns/\(∀n,f=("base":Str)->ns=[n]->R (.str "ok") (upd W x (bK n)))/\(f≠("base":Str)->R (U9 b f ns) W)
theorem qZ {n k:Nat} (h:Y7 n k):n<=300/\k<=12:=by
 unfold Y7 at h;omega
theorem PJ {f:Str} {bd:Int} (h:TX.BT.lookup f=some [bd]):f≠("ways":Str)/\f≠("way":Str):=by
 refine ⟨λz=>?_,λz=>?_⟩
 ·rw [z,show TX.BT.lookup ("ways":Str)=some [500,12] by decide] at h;cases (h)
 ·rw [z,show TX.BT.lookup ("way":Str)=some [500,12,10 ^ 40] by decide] at h;cases (h)
theorem wsw {f:Str} (z:f≠("ways":Str)) (n:f≠("way":Str)):(([("ways":Str),"way"]).any λx=>x == f)=false:=by
 rw [xj,xj,List.any_nil,yt.mpr (Ne.symm z),yt.mpr (Ne.symm n)];rfl
theorem afK (T:Zs K mg cs):YF P w base 25 T.jn S_S:=by
 have G_x:=ace P w base T
 have G_y:=afI P w base T
 have G_w:=ab6 P w base T
 refine T.jn.F.Uc abu (λW ds R h=>?_) (λcdv A outer s H E C W ds R O Z h=>?_)
 ·obtain ⟨_,_,_,_,rfl,_⟩:=h;rfl
 have hu:=Z.units
 obtain ⟨x,b,f,ns,rfl,Y,b0,b1,ha,q1,q2⟩:=h
 have gb:iZ [((Sum.inr (Str.ofString "base"):Key),V.int b)] (Sum.inr (Str.ofString "base"))=some (.int b):=by unfold iZ;simp
 refine ⟨_,(aR (aaT (λW ok=>(dh O hu (qv 1) qs)) (aR (Yc (λW ok=>(qx O (qv 2))) (λW ok=>(qv 0)) (λW ok=>qs))
    (cU (aZ (λW ok=>(bI (i_ qs)))))) Ua)
    (aR (aZ (λW ok=>(bx (Nj (qv 1) (eO (a2 qs qs))) (aL (bI (aj O T.fX G_y Z.m (a3 (Eh (Ui ok) (qv 0) qs) (qv 1) (qx O (qv 2)))))) aP)))
    (aR (aZ (λW ok=>(aU (i:=3) abu.nd rfl lc (ak (aj O T.eN G_x Z.m (aN (qx O (qv 2)) (a3 (Eh (Ui ok) (qv 0) qs) (qx O (qv 2)) (qx O (qv 2)))))))))
    (aR (aZ (λW ok=>(bx (dh O hu (qv 1) qs) (sr (bM rfl T.dH (a1 (fc O rfl T.fH (a1 (qv 3)))))) aP)))
    (cU (aZ (λW ok=>(bI (i_ (jt (rT (qx O (qv 2)) (fc O rfl T.fH (a1 (qv 3)))) (ak (aj O T.dZ G_w Z.m (a1 (pB O (qv 3) (qx O (qv 2)) (λ_ _=>rfl))))) (eO (a1 qs)))))))))))),?_⟩
 refine aF λJ B=>?_
 simp only [R]
 cases ha with
 | base n0 n1=>
  rename_i n
  rw [zm rfl]
  have ep:putK [((Sum.inr (Str.ofString "base"):Key),V.int b)] (Sum.inr (Str.ofString "base")) (V.int n)=[((Sum.inr (Str.ofString "base"):Key),V.int n)]:=by unfold putK;simp
  have q:=q1 n rfl rfl
  unfold bK at Y q
  simp only [Q]
  exact ⟨_,Y,by show 1<sizeLine;rw [xn];decide,by rw [ep];exact q⟩
 | one n0 nb Zj hb Y6=>
  rename_i n bd
  rw [zi Y6]
  refine B _ _ ?_
  clear B J
  obtain ⟨w1,w2⟩:=PJ hb
  unfold bK at Y
  refine aF λJ B=>?_
  simp only [R,S_y]
  refine ⟨[("ways":Str),"way"],rfl,?_⟩
  rw [zm (wsw w1 w2)]
  exact ⟨_,Y,_,gb,b,rfl,b0,b1,n0,bd,nb,Zj,hb,Y6,q2 Y6⟩
 | ways hf=>
  rename_i n k
  rw [zi (by decide)]
  refine B _ _ ?_
  clear B J
  have q:=q2 (by decide)
  obtain ⟨I,U⟩:=qZ hf
  have ao:=M.Oq b k n (n:Int)
  unfold bK at Y
  refine aF λJ B=>?_
  simp only [R]
  refine ⟨[("ways":Str),"way"],rfl,?_⟩
  rw [zi (by decide)]
  refine B _ _ ?_
  clear B J
  refine aF λJ B=>?_
  simp only [R,S_x,Fe]
  have e:(((dl (M.aw b k n (n:Int))).length:Nat):Int)=M.cg true (M.bA b (n:Int)).reverse k (n:Int):=by
   unfold dl
   rw [zd];exact ao.1
  refine ⟨_,Y,_,gb,n,rfl,b,rfl,k,rfl,n,rfl,I,I,by omega,U,b0,b1,M.Ow hf,λr Z=>?_⟩
  rw [Z]
  refine B _ _ ?_
  clear B J
  obtain ⟨c0,c1⟩:=U4 (k:=k) b0 b1 (n:=(n:Int)) (by omega) (by omega) U
  rw [iT (by decide) (by decide),G4] at q
  refine aF λJ B=>?_
  simp only [R]
  rw [e]
  exact ⟨(TX.eU c0 c1).lg,q⟩
 | way hf p0 p1=>
  rename_i n k pl
  rw [zi (by decide)]
  refine B _ _ ?_
  clear B J
  have q:=q2 (by decide)
  obtain ⟨I,U⟩:=qZ hf
  have ao:=M.Oq b k n (n:Int)
  unfold bK at Y
  refine aF λJ B=>?_
  simp only [R]
  refine ⟨[("ways":Str),"way"],rfl,?_⟩
  rw [zi (by decide)]
  refine B _ _ ?_
  clear B J
  refine aF λJ B=>?_
  simp only [R,S_x,Fe]
  have e:(((dl (M.aw b k n (n:Int))).length:Nat):Int)=M.cg true (M.bA b (n:Int)).reverse k (n:Int):=by
   unfold dl
   rw [zd];exact ao.1
  refine ⟨_,Y,_,gb,n,rfl,b,rfl,k,rfl,n,rfl,I,I,by omega,U,b0,b1,M.Ow hf,λr Z=>?_⟩
  rw [Z]
  refine B _ _ ?_
  clear B J
  refine aF λJ B=>?_
  simp only [R]
  rw [zi (by decide)]
  refine B _ _ ?_
  clear B J
  unfold U9 at q
  rw [zi (λz=>absurd z.1 (by decide))] at q
  simp only [Q,S_w]
  rw [e]
  refine eX (λc=>?_) (λc=>?_)
  ·rw [zi (λz=>absurd c (Int.not_lt.mpr z.2)),Pz] at q
   obtain ⟨i,rfl⟩:=zR p0
   have hi:i<(M.aw b k n (n:Int)).length:=by
    have:=ao.1
    rw [show (M.jJ b n).reverse=(M.bA b (n:Int)).reverse from rfl] at this
    omega
   have g:=ao.2 i hi
   obtain ⟨w1,w2⟩:=M.Er (M.bA b (n:Int)).reverse k (n:Int) (i:Int)
   refine ⟨_,gU (show (dl (M.aw b k n (n:Int)))[i]? = some (.lst ((M.qu (M.bA b (n:Int)).reverse k (n:Int) (i:Int)).map D.int)) by unfold dl;rw [zO,g];rfl),_,rfl,⟨λy hy=>?_,by omega⟩,q⟩
   have:=(M.iI (by omega)).mp (yi.mp (w1 y hy))
   omega
  ·rw [zm ⟨rfl,Int.not_lt.mp c⟩] at q
   exact q
def pR (f:Str):Prop:=f=("base":Str)\/f=("ways":Str)\/f=("way":Str)\/f=("two":Str)\/f=("fewest":Str)\/f=("at":Str)\/TX.BT.lookup f=some [10 ^ 40]/\f≠("base":Str)
instance (f:Str):Decidable (pR f):=by unfold pR;exact inferInstance
def Cp (L:List D):Prop:=∀d∈L,∃t,d=.str t/\pR t
theorem Cp.nil:Cp []:=λd h=>absurd h yJ
theorem Cp.cons {t:Str} {L:List D} (h:pR t) (g:Cp L):Cp (.str t::L):=λd hd=>by
 rcases zr.mp hd with rfl|hd
 ·exact ⟨t,rfl,h⟩
 ·exact g d hd
theorem Cp.app {L M:List D} (h:Cp L) (g:Cp M):Cp (L++M):=λd hd=>by
 rcases zN.mp hd with hd|hd
 ·exact h d hd
 ·exact g d hd
theorem Cp.at {L:List D} (h:Cp L) {g:Int} (z:0<=g) (B:g<L.length):∃t,iy L g=some (.str t)/\pR t:=by
 obtain ⟨k,rfl⟩:=zR z
 have n:k<L.length:=by omega
 obtain ⟨t,e,a⟩:=h L[k] (yh n)
 exact ⟨t,by rw [gU (zg n),e],a⟩
theorem at2 {g a b:Int} (z:0<=g) (n:g<2):∃x:Int,iy [D.int a,D.int b] g=some (.int x)/\(x=a\/x=b):=by
 have:g=0\/g=1:=by omega
 rcases this with rfl|rfl
 ·exact ⟨a,rfl,.inl rfl⟩
 ·exact ⟨b,rfl,.inr rfl⟩
def S_C (_:Addr):Rk:=λH as R=>∃(h:List D) (x:Addr) (m b:Int),as=[.bor h,.d (.atom (.ref x))]/\H x=some (bK b)/\2<=b/\b<=36/\dD m h/\m<=5000/\∀(f:Str) (ns:List Int) (h':List D),lR f ns->dD (m+300) h'->R (.rd (.tup [.str f,.lst (ns.map D.int)])) [.bor h',.d (.atom (.ref x))]
theorem afL (T:Zs K mg cs):OkH P w base 6 T.kE (S_C T.cl):=by
 have G_o:=afE P w base T
 have U:=Ti P w base T
 have G_u:=Pb P w base T
 refine T.kE.F.okH BR (λH as R h=>?_) (λcdv A outer s H E C as R J hH0 hbs Z h=>?_)
 ·obtain ⟨_,_,_,_,rfl,_⟩:=h;rfl
 have hu:=Z.units
 obtain ⟨h,x,m,b,rfl,hx,b0,b1,hd,m6,q⟩:=h
 subst hH0
 have hW0:=aaY hbs
 have gb:iZ [((Sum.inr (Str.ofString "base"):Key),V.int b)] (Sum.inr (Str.ofString "base"))=some (.int b):=by unfold iZ;simp
 refine ⟨_,(@bh _ _ _ _ _ _ (@aU _ _ _ _ _ 2 _ _ BR.nd rfl lc (@ak _ _ _ _ (@bG _ _ _ _ _ (@aS _ _ _ _ _ _ _ (@aS _ _ _ _ _ _ _ (@aS _ _ _ _ _ _ _ (@aS _ _ _ _ _ _ _ (@aS _ _ _ _ _ _ _ (@aS _ _ _ _ _ _ _ (@aS _ _ _ _ _ _ _ (@aS _ _ _ _ _ _ _ (@aS _ _ _ _ _ _ _ (@aS _ _ _ _ _ _ _ dY rfl) rfl) rfl) rfl) rfl) rfl) rfl) rfl) rfl) rfl))) (by rfl) (by first|exact .inl rfl|exact .inr rfl|assumption))
    (bh (aU (i:=3) BR.nd rfl lc (pB J (ak (Ar (qv 2) (ak (bG (aN qs (aN qs (a3 qs qs qs))))))) (ak (aj J T.aM U Z.m (a2 (qv 0) qi))) (λ_ _=>rfl)))
    (bh (bx (dh J hu (qv 3) qs) (sr (eO (a2 (qv 3) (ak (bG (a1 (pB J (ak (bG (aN (cT qi (ak (aj J T.aM U Z.m (aN (qv 0) (a1 qi))))) (a1 qi)))) (pC rfl T.jK (a1 (HY J hu (ak (aj J T.aM U Z.m (aN (qv 0) (aN qi dY)))) qi))) (λ_ _=>rfl)))))))) aP)
    (bh (bx (Yh (qv 3) (eO (a2 qs qs))) (bh (aU (i:=4) BR.nd rfl lc (ak (aj J T.aM U Z.m (a2 (qv 0) (pB J (ak (bG (a2 qi qi))) (ak (aj J T.aM U Z.m (a2 (qv 0) qi))) (λ_ _=>rfl))))))
    (bh (aU (i:=5) BR.nd rfl lc (ak (aj J T.aM U Z.m (a2 (qv 0) (jt (rT (qv 4) qi) (pB J (ak (bG (aN qi (aN qi (a2 qi qi))))) (qv 4) (λ_ _=>rfl)) qi)))))
    (sr (eO (a2 (qv 3) (ak (adK J (ak (bG (aN (qv 5) (a2 (qv 4) (ak (aj J T.aM U Z.m (aN (qv 0) (aN qi dY)))))))) WL (WM (cT qi (pC rfl T.jK (a1 (HY J hu (qv 3) qs)))))))))))) aP)
    (bh (bx (dh J hu (qv 3) qs) (sr (eO (a2 (qv 3) (ak (bG (a1 (ak (aj J T.aM U Z.m (aN (qv 0) (a1 (pB J (ak (bG (aN qi (aN (FQ qi qi) dY)))) (pC rfl T.jK (aN (HY J hu (ak (aj J T.aM U Z.m (aN (qv 0) (aN qi dY)))) qi) dY)) (λ_ _=>rfl)))))))))))) aP)
    (bh (bx (dh J hu (qv 3) qs) (sr (eO (a2 (qv 3) (ak (bG (a1 (ak (aj J T.aM U Z.m (aN (qv 0) (a1 (pB J (ak (bG (aN qi (aN (FQ qi qi) dY)))) (pC rfl T.jK (aN (HY J hu (ak (aj J T.aM U Z.m (aN (qv 0) (aN qi dY)))) qi) dY)) (λ_ _=>rfl)))))))))))) aP)
    (bh (aU (i:=5) BR.nd rfl lc (ak (aj J T.gY G_o Z.m (a2 (qv 0) (pB J (ak (bG (a2 qi qi))) (ak (aj J T.aM U Z.m (a2 (qv 0) qi))) (λ_ _=>rfl))))))
    (bh (bx (dh J hu (qv 3) qs) (aL (aU (i:=5) BR.nd rfl lc (ak (aj J T.gY G_o Z.m (a2 (qv 0) qi))))) aP)
    (bh (bx (PW.pt (w_and (dh J hu (ak (aj J T.aM U Z.m (a2 (qv 0) qi))) qi) (Dt (Ws J hu (qv 3) qs)))) (aL (aU (i:=5) BR.nd rfl lc (ak (aj J T.fV G_u Z.m (a2 (qv 5) (Eh hW0 (qv 1) qs)))))) aP)
    (sr (eO (a2 (qv 3) (ak (bG (a1 (qv 5)))))))))))))))),?_⟩
 refine cD (λp=>∃L:List D,Cp L/\L.length=10/\p=[some (.bor h),some (.d (.atom (.ref x))),some (.d (.lst L)),none,none,none]) (λk hk=>?_) ?_
 ·simp only [Hg]
  refine hk _ ⟨_,?_,rfl,rfl⟩
  repeat' (first|exact Cp.nil|refine Cp.cons (by decide) ?_)
 rintro p ⟨L,tL,lL,rfl⟩
 refine cD (λp=>∃(f:Str) (h1:List D),pR f/\dD (m+1) h1/\p=[some (.bor h1),some (.d (.atom (.ref x))),some (.d (.lst L)),some (.d (.str f)),none,none]) (λk hk=>?_) ?_
 ·simp only [R,uW]
  have t5:Cp [D.str (Str.ofString "two"),D.str (Str.ofString "fewest"),D.str (Str.ofString "ways"),D.str (Str.ofString "way"),D.str (Str.ofString "way")]:=by
   repeat' (first|exact Cp.nil|refine Cp.cons (by decide) ?_)
  refine ⟨by omega,m,hd,by omega,λg h' g0 g1 hd'=>?_⟩
  obtain ⟨t,et,ht⟩:=(tL.app t5).at g0 (by rw [zj,lL];exact g1)
  exact ⟨_,et,hk _ ⟨t,h',ht,hd',rfl⟩⟩
 rintro p ⟨f,h1,hf,hd1,rfl⟩
 refine aq λkk B=>?_
 simp only [R,uW]
 refine eX (λz=>?_) (λzb=>B _ ?_)
 ·refine ⟨_,hd1,by omega,λg h2 g0 g1 I=>⟨_,I,by omega,λe Y e0 e1 O=>?_⟩⟩
  obtain ⟨y,ey,hy⟩:=at2 (a:=2+g) (b:=10) (g:=if e=0 then 1 else 0) (by split<;>decide) (by split<;>decide)
  refine ⟨_,ey,?_⟩
  subst z
  exact q _ [y] Y (.base (by omega) (by omega)) (O.mono (by omega))
 clear B kk
 refine aq λkk B=>?_
 simp only [R]
 refine ⟨[("ways":Str),"way"],rfl,?_⟩
 refine eX (λz=>?_) (λzw=>B _ ?_)
 ·have hz:f=("ways":Str)\/f=("way":Str):=by
   rw [xj,xj,List.any_nil,Bool.or_false,Bool.or_eq_true,beq_iff_eq,beq_iff_eq] at z
   exact z.imp Eq.symm Eq.symm
  refine cD (λp=>∃(k:Nat) (h2:List D),k<=12/\dD (m+3) h2/\p=[some (.bor h2),some (.d (.atom (.ref x))),some (.d (.lst L)),some (.d (.str f)),some (.d (.int (k:Int))),none]) (λk hk=>?_) ?_
  ·simp only [R,uW]
   refine ⟨_,hd1,by omega,λg h2 g0 g1 I=>?_⟩
   obtain ⟨y,ey,hy⟩:=at2 (a:=4) (b:=13) g0 g1
   refine ⟨_,ey,_,y,rfl,I,by omega,by omega,by omega,λj Y j0 j1 O=>hk _ ?_⟩
   obtain ⟨j,rfl⟩:=zR j0
   exact ⟨j,Y,by omega,O.mono (by omega),rfl⟩
  rintro p ⟨k,h2,k12,I,rfl⟩
  refine cD (λp=>∃(n:Nat) (Y:List D),Y7 n k/\dD (m+4) Y/\p=[some (.bor Y),some (.d (.atom (.ref x))),some (.d (.lst L)),some (.d (.str f)),some (.d (.int (k:Int))),some (.d (.int (n:Int)))]) (λkk B=>?_) ?_
  ·simp only [R,uW]
   have go:∀y:Int,0<y->y<=300->(∀n:Nat,(n:Int)<y->Y7 n k)->∀(g:Int) (h':List D),0<=g->g<y->dD (m+3+1) h'->kk [some (.bor h'),some (.d (.atom (.ref x))),some (.d (.lst L)),some (.d (.str f)),some (.d (.int (k:Int))),some (.d (.int g))]:=λy y0 y1 hy g h' g0 g1 hd'=>by
    obtain ⟨g,rfl⟩:=zR g0
    exact B _ ⟨g,h',hy g g1,hd'.mono (by omega),rfl⟩
   refine eX (λc=>?_) (λc=>?_)
   ·have four:∃y:Int,iy [D.int 300,D.int 300,D.int 120,D.int 40] (k:Int)=some (.int y)/\0<y/\y<=300/\∀n:Nat,(n:Int)<y->Y7 n k:=by
     have:k=0\/k=1\/k=2\/k=3:=by omega
     rcases this with rfl|rfl|rfl|rfl
     ·exact ⟨300,rfl,by decide,by decide,λn h=>.inl ⟨by decide,by omega⟩⟩
     ·exact ⟨300,rfl,by decide,by decide,λn h=>.inl ⟨by decide,by omega⟩⟩
     ·exact ⟨120,rfl,by decide,by decide,λn h=>.inl ⟨by decide,by omega⟩⟩
     ·exact ⟨40,rfl,by decide,by decide,λn h=>.inr (.inl ⟨rfl,by omega⟩)⟩
    obtain ⟨y,ey,y0,y1,hy⟩:=four
    exact ⟨_,ey,_,y,rfl,I,by omega,y0,by omega,go y y0 y1 hy⟩
   ·exact ⟨_,I,by omega,go 27 (by decide) (by decide) λn h=>.inr (.inr ⟨k12,by omega⟩)⟩
  rintro p ⟨n,Y,hfe,O,rfl⟩
  simp only [Q,uW]
  refine ⟨_,O,by omega,λg h4 g0 g1 hd4=>?_⟩
  rcases hz with rfl|rfl
  ·have e:cut [D.int (n:Int),D.int (k:Int),D.int g] none (some (2+if (Str.ofString "ways")=Str.ofString "way" then 1 else 0))=[D.int (n:Int),D.int (k:Int)]:=by rw [zi (by decide)];rfl
   rw [e]
   exact q _ [(n:Int),(k:Int)] h4 (.ways hfe) (hd4.mono (by omega))
  ·have e:cut [D.int (n:Int),D.int (k:Int),D.int g] none (some (2+if (Str.ofString "way")=Str.ofString "way" then 1 else 0))=[D.int (n:Int),D.int (k:Int),D.int g]:=by rw [zm rfl];rfl
   rw [e]
   exact q _ [(n:Int),(k:Int),g] h4 (.way hfe g0 (yw (Int.le_of_lt g1) (by decide))) (hd4.mono (by omega))
 clear B kk
 refine aq λkk B=>?_
 simp only [R,uW]
 refine eX (λz=>?_) (λz2=>B _ ?_)
 ·refine ⟨_,hd1,by omega,λg h2 g0 g1 I=>?_⟩
  obtain ⟨y,ey,hy⟩:=at2 (a:=300) (b:=1000000) (g:=if g=0 then 1 else 0) (by split<;>decide) (by split<;>decide)
  refine ⟨_,ey,_,y,rfl,I,by omega,by omega,by omega,λn Y n0 n1 O=>?_⟩
  subst z
  exact q _ [n] Y (.one (bd:=10 ^ 6) n0 (by omega) (by decide) (by decide) (by decide)) (O.mono (by omega))
 clear B kk
 refine aq λkk B=>?_
 simp only [R,uW]
 refine eX (λz=>?_) (λz3=>B _ ?_)
 ·refine ⟨_,hd1,by omega,λg h2 g0 g1 I=>?_⟩
  obtain ⟨y,ey,hy⟩:=at2 (a:=1000) (b:=1000000) (g:=if g=0 then 1 else 0) (by split<;>decide) (by split<;>decide)
  refine ⟨_,ey,_,y,rfl,I,by omega,by omega,by omega,λn Y n0 n1 O=>?_⟩
  subst z
  exact q _ [n] Y (.one (bd:=10 ^ 6) n0 (by omega) (by decide) (by decide) (by decide)) (O.mono (by omega))
 clear B kk
 have hfw:¬(f=("ways":Str)\/f=("way":Str)):=λz=>zw (by rcases z with rfl|rfl<;>decide)
 have hf':f=("at":Str)\/TX.BT.lookup f=some [10 ^ 40]:=by
  rcases hf with y|y|y|y|y|y|y
  ·exact absurd y zb
  ·exact absurd (.inl y) hfw
  ·exact absurd (.inr y) hfw
  ·exact absurd y z2
  ·exact absurd y z3
  ·exact .inl y
  ·exact .inr y.1
 refine cD (λp=>∃(n:Int) (h2:List D),0<=n/\n<=10 ^ 40/\dD (m+102) h2/\p=[some (.bor h2),some (.d (.atom (.ref x))),some (.d (.lst L)),some (.d (.str f)),none,some (.d (.int n))]) (λkk B=>?_) ?_
 ·simp only [R,uW,S_o]
  refine ⟨_,hd1,by omega,λg h2 g0 g1 I=>?_⟩
  have two:∃y:Nat,iy [D.int 3,D.int 40] g=some (.int (y:Int))/\1<=y/\y<=40:=by
   have:g=0\/g=1:=by omega
   rcases this with rfl|rfl
   ·exact ⟨3,rfl,by decide,by decide⟩
   ·exact ⟨40,rfl,by decide,by decide⟩
  obtain ⟨y,ey,y0,y1⟩:=two
  exact ⟨_,ey,_,y,rfl,I,by omega,y0,y1,λn Y n0 n1 O=>B _ ⟨n,Y,n0,yw n1 (pow10 y1),O.mono (by omega),rfl⟩⟩
 rintro p ⟨n,h2,n0,n1,I,rfl⟩
 refine cD (λp=>∃(n:Int) (h2:List D),0<=n/\n<=10 ^ 40/\(f=("at":Str)->n<=10 ^ 20)/\dD (m+202) h2/\p=[some (.bor h2),some (.d (.atom (.ref x))),some (.d (.lst L)),some (.d (.str f)),none,some (.d (.int n))]) (λkk B=>?_) ?_
 ·simp only [R,S_o]
  refine eX (λz=>?_) (λz=>B _ ⟨n,h2,n0,n1,λy=>absurd y z,I.mono (by omega),rfl⟩)
  exact ⟨_,20,rfl,I,by omega,by decide,by decide,λy Y y0 y1 O=>B _ ⟨y,Y,y0,yw y1 (pow10 (by decide)),λ_=>y1,O.mono (by omega),rfl⟩⟩
 rintro p ⟨n,h2,n0,n1,nat,I,rfl⟩
 refine cD (λp=>∃(n:Int) (h2:List D),0<=n/\n<=10 ^ 40/\(f=("at":Str)->n<=10 ^ 20)/\dD (m+203) h2/\p=[some (.bor h2),some (.d (.atom (.ref x))),some (.d (.lst L)),some (.d (.str f)),none,some (.d (.int n))]) (λkk B=>?_) ?_
 ·unfold bK at hx
  simp only [R,uW,S_u]
  refine ⟨_,I,by omega,λg Y g0 g1 O=>?_⟩
  have stay:=B _ ⟨n,Y,n0,n1,nat,O.mono (by omega),rfl⟩
  refine eX (λ_=>eX (λ_=>stay) (λz=>?_)) (λ_=>stay)
  exact ⟨_,hx,_,gb,b,rfl,n0,(lQ n1).1,b0,b1,λy hy=>B _ ⟨y,Y,hy.mp.1,yw hy.le n1,λe=>absurd e z,O.mono (by omega),rfl⟩⟩
 rintro p ⟨n,h2,n0,n1,nat,I,rfl⟩
 simp only [Hh]
 rcases hf' with z|z
 ·exact q f [n] h2 (.one (bd:=10 ^ 20) n0 (nat z) (by decide) (by rw [z];decide) zb) (I.mono (by omega))
 ·exact q f [n] h2 (.one (bd:=10 ^ 40) n0 n1 (yx _) z zb) (I.mono (by omega))
theorem AT.mem {m:Nat} {t:Str} (h:AT m t):∀c∈t.cps.toList,c<128:=λc n=>by
 have:=h.1
 rw [<-xp,yC] at this
 exact yY (this c n)
theorem AT.of {m:Nat} {t:Str} (h:∀c∈t.cps.toList,c<128) (l:t.length<=m):AT m t:=by
 refine ⟨?_,l⟩
 rw [<-xp,yC]
 exact λc n=>yj (h c n)
theorem AT.cat {m n:Nat} {t u:Str} (h:AT m t) (g:AT n u):AT (m+n) (t++u):=by
 have e:=TX.j9 t u
 refine .of (λc z=>?_) ?_
 ·rw [e] at z
  rcases zN.mp z with z|z
  ·exact h.mem c z
  ·exact g.mem c z
 ·have:=yn List.length e
  rw [TX.cN,zj,TX.cN,TX.cN] at this
  have:=h.2
  have:=g.2
  omega
def okF (f:Str):Bool:=(f.cps.toList.all λc=>decide (c<128) && decide (c≠32)) && decide (f.length<=10)
theorem U_ {f:Str} {bs:List Int} (h:TX.BT.lookup f=some bs):okF f=true:=by
 have:∀l:List (Str × List Int),(l.all λp=>okF p.1)=true->List.lookup f l=some bs->okF f=true:=λl=>by
  induction l with
  | nil=>intro _ h;cases h
  | cons p r ih=>
   intro a h
   obtain ⟨x,v⟩:=p
   rw [List.all_cons,yo] at a
   rcases lF h with ⟨rfl,_⟩|h
   ·exact a.1
   ·exact ih a.2 h
 exact this _ (by decide) h
def fits:List Int->List Int->Prop
 | [],[]=>True
 | n::ns,b::bs=>(0<=n/\n<=b/\b<=10 ^ 40)/\fits ns bs
 | _,_=>False
theorem pU:∀{ns bs:List Int},fits ns bs->TX.nums (ns.map TX.tx) bs=some ns/\∀n∈ns,0<=n/\n<10 ^ 50
 | [],[],_=>⟨rfl,λ_ h=>absurd h yJ⟩
 | n::ns,b::bs,⟨⟨h0,h1,h2⟩,h⟩=>by
  obtain ⟨e,g⟩:=pU h
  refine ⟨?_,λm z=>?_⟩
  ·rw [yu,TX.nums,TX.Ol h0 (by omega),zm h1,e];rfl
  ·rcases zr.mp z with rfl|z
   ·exact ⟨h0,by omega⟩
   ·exact g m z
theorem Va {n:Int} (h0:0<=n) (D:n<10 ^ 50):AT 50 (TX.tx n):=by
 have z:=TX.eU h0 D
 exact .of (λc B=>by have:=z.dig c B;omega) z.len
theorem G6:∀(ns:List Int),(∀n∈ns,0<=n/\n<10 ^ 50)->AT (51 * ns.length) (Str.join TX.mQ (ns.map TX.tx))
 | [],_=>.Jo (by decide)
 | [n],h=>(Va (h n zo).1 (h n zo).2).mono (by show 50<=51 * 1;decide)
 | n::m::r,h=>by
  have a:=Va (h n zo).1 (h n zo).2
  have b:=G6 (m::r) λx z=>h x (zp _ z)
  have s:AT 1 TX.mQ:=.Jo (by decide)
  have e:Str.join TX.mQ ((n::m::r).map TX.tx)=TX.tx n++TX.mQ++Str.join TX.mQ ((m::r).map TX.tx):=by
   refine TX.tK ?_
   rw [yu,yu,TX.wJ,TX.j9,TX.j9,yH]
  rw [e]
  exact ((a.cat s).cat b).mono (by simp only [zH];omega)
theorem PK {f:Str} {bs ns:List Int} (O:TX.BT.lookup f=some bs) (hf:fits ns bs) (Y:ns≠[]) (n3:ns.length<=3):TX.rowOf (f++Str.ofString " "++Txt.join (Str.ofString " ") (ns.map TX.tx))=some (f,ns)/\AT 1000 (f++Str.ofString " "++Txt.join (Str.ofString " ") (ns.map TX.tx)):=by
 have ok:=U_ O
 unfold okF at ok
 rw [yo,yC,yl] at ok
 have B:∀c∈f.cps.toList,c<128/\c≠32:=λc J=>by
  have:=ok.1 c J
  rw [yo,yl,yl] at this
  exact this
 obtain ⟨en,I⟩:=pU hf
 have Z:=G6 ns I
 have U:Txt.join (Str.ofString " ") (ns.map TX.tx)=Str.join TX.mQ (ns.map TX.tx):=StrLaws.glued_eq_join _ _
 rw [U]
 clear U
 have e:f++Str.ofString " "++Str.join TX.mQ (ns.map TX.tx)=Str.join TX.mQ (f::ns.map TX.tx):=by
  obtain ⟨n,r,rfl⟩:∃n r,ns=n::r:=by
   cases ns with
   | nil=>exact absurd rfl Y
   | cons n r=>exact ⟨n,r,rfl⟩
  refine TX.tK ?_
  rw [yu,TX.wJ,TX.j9,TX.j9,yH];rfl
 refine ⟨?_,(((AT.of (m:=10) (λc J=>(B c J).1) ok.2).cat (AT.Jo (m:=1) (t:=Str.ofString " ") (by decide))).cat Z).mono (by omega)⟩
 unfold TX.rowOf
 rw [e,TX.split1 (by simp) (λw D=>by
  rcases zr.mp D with rfl|D
  ·exact λz=>(B 32 z).2 rfl
  ·obtain ⟨n,h,rfl⟩:=yb.mp D
   intro z
   have:=(TX.eU (I n h).1 (I n h).2).dig 32 z
   omega)]
 simp only [O,xG,en];rfl
theorem Jg {f:Str} {ns:List Int} (h:lR f ns):(∃bs,TX.BT.lookup f=some bs/\fits ns bs)/\ns≠[]/\ns.length<=3/\∀n∈ns,0<=n/\n<10 ^ 50:=by
 suffices k:(∃bs,TX.BT.lookup f=some bs/\fits ns bs)/\ns≠[]/\ns.length<=3 from ⟨k.1,k.2.1,k.2.2,(pU k.1.choose_spec.2).2⟩
 cases h with
 | base n0 n1=>exact ⟨⟨[10 ^ 40],by decide,⟨by omega,by omega,by decide⟩,trivial⟩,by simp,by simp⟩
 | one n0 nb Zj hb _=>exact ⟨⟨_,hb,⟨n0,nb,Zj⟩,trivial⟩,by simp,by simp⟩
 | ways hf=>obtain ⟨h1,h2⟩:=qZ hf;exact ⟨⟨[500,12],by decide,⟨by omega,by omega,by decide⟩,⟨by omega,by omega,by decide⟩,trivial⟩,by simp,by simp⟩
 | way hf p0 p1=>obtain ⟨h1,h2⟩:=qZ hf;exact ⟨⟨[500,12,10 ^ 40],by decide,⟨by omega,by omega,by decide⟩,⟨by omega,by omega,by decide⟩,⟨p0,p1,yx _⟩,trivial⟩,by simp,by simp⟩
theorem Cq {b:Int} {f w:Str} {ns:List Int} (B:AT 50000 w) (h:lR f ns) (nb:f≠("base":Str)) (n:TX.rowOf w=some (f,ns)):Fd cs b w (U9 b f ns):=by
 unfold U9
 by_cases z:f=("place":Str)/\M.bQ b (ns.getD 0 0)=false
 ·rw [zm z]
  obtain ⟨rfl,z⟩:=z
  cases h with
  | one _ _ _ _ _=>exact .bad (.place B n z) .mirror
 rw [zi z]
 by_cases y:f=("way":Str)/\M.cg true (M.bA b (ns.getD 0 0)).reverse (ns.getD 1 0).toNat (ns.getD 0 0)<=ns.getD 2 0
 ·rw [zm y]
  obtain ⟨rfl,y⟩:=y
  cases h with
  | one _ _ _ hb _=>exact absurd rfl (PJ hb).2
  | way hf p0 p1=>exact .bad (.way B n y) .place
 rw [zi y]
 exact .good n ⟨nb,λe=>by
  cases e2:M.bQ b (ns.getD 0 0) with
  | true=>rfl
  | false=>exact absurd ⟨e,e2⟩ z,λe=>Int.not_le.mp λc=>y ⟨e,c⟩⟩
theorem dkW {C:Pc} {W:Hp} {cl x n:Addr} {b:Int} (h:W x=some (.ins cl n [("base",.int b)])) (D:2<=b) (B:b<=36) (z:C.bs=[]) {H:Hp} (kp:Kp (C.add W) H):Dk cl H x b:=
 Dk.kp (C:=C.add W) ⟨⟨n,(gr h:(C.add W).H0 x=_)⟩,D,B⟩ z kp
structure Y8 (cl:Addr) (W:Hp) (D S:Addr) (d s e:Nat->Addr) (b:Nat->Int):Prop where
 ds:W D=some (.lst [.ref (d 0),.ref (d 1)])
 ss:W S=some (.lst [.ref (s 0),.ref (s 1)])
 dk:∀i,i<2->W (d i)=some (.ins cl (e i) [("base",.int (b i))])
 st:∀i,i<2->W (s i)=some (bK (b i))
 rg:∀i,i<2->2<=b i/\b i<=36
 nd:d 0≠d 1
 ns:s 0≠s 1
theorem wY (d:Nat->Addr) {i:Nat} (h:i<2):iy [V.ref (d 0),V.ref (d 1)] (i:Int)=some (.ref (d i)):=by
 have:i=0\/i=1:=by omega
 rcases this with rfl|rfl<;>rfl
theorem Y8.put {cl:Addr} {W:Hp} {D S:Addr} {d s e:Nat->Addr} {b:Nat->Int} (h:Y8 cl W D S d s e b) {i:Nat} (hi:i<2) {n:Int} (U:2<=n) (n1:n<=36):Y8 cl (upd (upd W (d i) (.ins cl (e i) [("base",.int n)])) (s i) (bK n)) D S d s e (λj=>if j=i then n else b j):=by
 have ne:∀{a c:Addr} {x y:HO},W a=some x->W c=some y->x≠y->a≠c:=λh1 h2 z e=>by
  rw [e,h2] at h1
  exact z (yg h1).symm
 have Y:∀j,j<2->j≠i->d j≠d i:=λj B z=>by
  have:=h.nd
  have:(j=0/\i=1)\/(j=1/\i=0):=by omega
  rcases this with ⟨rfl,rfl⟩|⟨rfl,rfl⟩
  ·exact h.nd
  ·exact h.nd.symm
 have O:∀j,j<2->j≠i->s j≠s i:=λj B z=>by
  have:(j=0/\i=1)\/(j=1/\i=0):=by omega
  rcases this with ⟨rfl,rfl⟩|⟨rfl,rfl⟩
  ·exact h.ns
  ·exact h.ns.symm
 have J:∀{a:Addr} {vs:List V},W a=some (.lst vs)->upd (upd W (d i) (.ins cl (e i) [("base",.int n)])) (s i) (bK n) a=some (.lst vs):=λ{a vs} I=>by
  rw [az (ne I (h.st i hi) (λz=>by unfold bK at z;cases z)),az (ne I (h.dk i hi) (λz=>by cases z))];exact I
 refine ⟨J h.ds,J h.ss,λj B=>?_,λj B=>?_,λj B=>?_,h.nd,h.ns⟩
 ·rw [az (ne (h.dk j B) (h.st i hi) (λz=>by unfold bK at z;cases z))]
  by_cases z:j=i
  ·subst z;rw [aJ,zm rfl]
  ·rw [az (Y j B z),zi z];exact h.dk j B
 ·by_cases z:j=i
  ·subst z;rw [aJ,zm rfl]
  ·rw [az (O j B z),az (ne (h.st j B) (h.dk i hi) (λz=>by unfold bK at z;cases z)),zi z];exact h.st j B
 ·by_cases z:j=i
  ·rw [zm z];exact ⟨U,n1⟩
  ·rw [zi z];exact h.rg j B
theorem fJ (s:String):PyData.strOk (Str.ofString s)=true:=by
 unfold PyData.strOk
 rw [Str.ofString_eq_toList,Array.all_eq_true_iff_forall_mem]
 intro c n
 have n:c∈s.toList.map Char.toNat:=by simpa using n
 obtain ⟨k,_,rfl⟩:=yb.mp n
 have:=k.valid
 simp only [yl]
 unfold Char.toNat
 have h:k.val.toNat.isValidChar:=this
 unfold Nat.isValidChar at h
 omega
theorem PL {a b:Str} (h:PyData.strOk a=true) (g:PyData.strOk b=true):PyData.strOk (a++b)=true:=by
 unfold PyData.strOk at *
 rw [Array.all_eq_true_iff_forall_mem] at *
 intro c n
 have n:c∈(a++b).cps.toList:=by simpa using n
 rw [TX.j9] at n
 rcases zN.mp n with z|z
 ·exact h c (by simpa using z)
 ·exact g c (by simpa using z)
theorem wZ {sp:Str} (z:PyData.strOk sp=true):∀(ns:List Int),PyData.strOk (Str.join sp (ns.map TX.tx))=true
 | []=>by show PyData.strOk Str.empty=true;decide
 | [n]=>fJ _
 | n::m::r=>PL (PL (fJ _) z) (wZ z (m::r))
theorem PN (ns:List Int):PyData.strOk (wt ns)=true:=by
 unfold wt
 split
 ·exact fJ _
 ·rw [show Txt.join TX.sep (ns.map TX.tx)=Str.join TX.sep (ns.map TX.tx) from StrLaws.glued_eq_join _ _];exact wZ (fJ _) ns
theorem G7 {f:Str}:∀l:List (Str × Str),(∀p∈l,PyData.strOk p.2=true)->PyData.strOk ((List.lookup f l).getD "")=true
 | [],_=>fJ _
 | (x,v)::r,h=>by
  rw [zV]
  cases f == x with
  | true=>exact h _ zo
  | false=>exact G7 r λp n=>h p (zp _ n)
theorem Y9 (b:Int) (f:Str) (ns:List Int):PyData.strOk (ans b f ns)=true:=by
 unfold ans
 refine G7 _ ?_
 refine zS.mpr ⟨?_,zS.mpr ⟨?_,zS.mpr ⟨fJ _,zS.mpr ⟨fJ _,zS.mpr ⟨fJ _,zS.mpr ⟨fJ _,zS.mpr ⟨fJ _,zS.mpr ⟨PN _,zS.mpr ⟨fJ _,zS.mpr ⟨PN _,zS.mpr ⟨fJ _,zS.mpr ⟨PN _,λ_ h=>absurd h yJ⟩⟩⟩⟩⟩⟩⟩⟩⟩⟩⟩⟩
 ·show PyData.strOk (Txt.join TX.mQ _)=true
  rw [show Txt.join TX.mQ ((M.fg b (ns.getD 0 0)).map TX.tx)=Str.join TX.mQ ((M.fg b (ns.getD 0 0)).map TX.tx) from StrLaws.glued_eq_join _ _];exact wZ (fJ _) _
 ·show PyData.strOk (if _ then _ else _)=true
  split<;>exact fJ _
theorem G8 {t:Str} (h:PyData.strOk t=true):xM (.str t):=⟨by simp [L2.plain],by simp [toP,PyData.canLay0,h],by simp [toP,PyData.depth]⟩
theorem acg {t:Str} (h:PyData.strOk t=true):xM (.tup [.str t]):=⟨by simp [L2.plain,L2.mG],by simp [toP,toPs,PyData.canLay0,PyData.canLayAll0,h],by simp [toP,toPs,PyData.depth,PyData.depthAll]⟩
theorem Fd.ok {b:Int} {w:Str} {d:D} (h:Fd cs b w d):xM d:=by
 cases h with
 | good=>exact G8 (Y9 _ _ _)
 | bad _ hn=>cases hn<;>exact acg (fJ _)
theorem Jh:∀i,i<4->∃(z f B:Str) (n:Int),([D.str (Str.ofString "figures 123"),D.str (Str.ofString "is 121"),D.str (Str.ofString "few 1000"),D.str (Str.ofString "two 40")]).getD i .non=.str z/\Txt.split z (Str.ofString " ")=[f,B]/\intText? B=some n/\B.length<=640/\AT 50000 z/\TX.rowOf z=some (f,[n])/\lR f [n]/\f≠("base":Str):=λi hi=>by
 have:i=0\/i=1\/i=2\/i=3:=by omega
 rcases this with rfl|rfl|rfl|rfl
 ·exact ⟨_,"figures","123",123,rfl,by decide,by decide,by decide,.Jo (by decide),by decide,.one (bd:=10 ^ 40) (by decide) (by decide) (by decide) (by decide) (by decide),by decide⟩
 ·exact ⟨_,"is","121",121,rfl,by decide,by decide,by decide,.Jo (by decide),by decide,.one (bd:=10 ^ 40) (by decide) (by decide) (by decide) (by decide) (by decide),by decide⟩
 ·exact ⟨_,"few","1000",1000,rfl,by decide,by decide,by decide,.Jo (by decide),by decide,.one (bd:=10 ^ 40) (by decide) (by decide) (by decide) (by decide) (by decide),by decide⟩
 ·exact ⟨_,"two","40",40,rfl,by decide,by decide,by decide,.Jo (by decide),by decide,.one (bd:=10 ^ 6) (by decide) (by decide) (by decide) (by decide) (by decide),by decide⟩
def tY:Cu:=λW ds R=>∃ns:List Int,ds=[.p8 ns]/\W=(λ_=>none)/\ns.length<=63/\∀n,R (.bl true) n
theorem Tn (T:Zs K mg cs):YF P w base 27 T.uT tY:=by
 have ach:=Th P w base T
 have afN:=ab3 P w base T
 have G_c:=Ti P w base T
 have G_V:=afH P w base T
 have G_C:=afL P w base T
 have G_i:=afF P w base T
 have afP:=ab8 P w base T
 have G_S:=afK P w base T
 refine T.uT.F.aaM eG (λW ds R h=>?_) (λcdv A outer s H E C W ds R hbs O hr h=>?_)
 ·obtain ⟨_,rfl,_⟩:=h;rfl
 have hu:=hr.units
 obtain ⟨ns,rfl,rfl,hl,q⟩:=h
 refine ⟨_,(aR (qd (i:=1) eG.nd rfl lc (Nu (M5 O T.mkd ach hr.m rfl T.mC T.UG) (M5 O T.mkd ach hr.m rfl T.mC T.UG)))
    (aR (qd (i:=2) eG.nd rfl lc (Nu (Nr Cy uZ) (Nr Cy uZ)))
    (aR (oh zL rfl (λW ok=>(nQ rfl T.fG (a2 qi (Dy rfl rfl T.Ox (a2 (fc O rfl T.fH (a1 (qv 0))) qi))))) (λW ok=>(aH (i:=3) eG.nd rfl lc)) (aR (aZ (λW ok=>(gG (i:=4) eG.nd rfl lc (aj O T.mX afN hr.m (a2 (pB O (qv 0) (qv 3) (λ_ _=>rfl)) (cT qi (qv 3)))))))
    (aR (aZ (λW ok=>(aU (i:=5) eG.nd rfl lc (pC rfl T.jK (a1 (HY O hu (ak (aj O T.aM G_c hr.m (a2 (qv 4) qi))) qi))))))
    (aR (aZ (λW ok=>(bx (dh O hu (ak (aj O T.aM G_c hr.m (a2 (qv 4) qi))) qi) (bh (fj (ak (aj O T.pQ G_V hr.m (a1 (qv 4)))) (jc (n:=2) O rfl (aV (aH (i:=6) eG.nd rfl lc) (aV (aH (i:=7) eG.nd rfl lc) dF))))
    (aL (bx (aau O hu (ak (qQ O T.dN G_i hr.m (a2 (dG ok O (qv 1) (qv 5) (λ_ _=>rfl)) (qv 6)))) (qv 7)) (sr (oW nq (λ_=>.bl _))) aP))) aP)))
    (aR (aZ (λW ok=>(fj (ak (qQ O T.kE G_C hr.m (a2 (qv 4) (dG ok O (qv 2) (qv 5) (λ_ _=>rfl))))) (jc (n:=2) O rfl (aV (aH (i:=8) eG.nd rfl lc) (aV (aH (i:=9) eG.nd rfl lc) dF))))))
    (aR (aZ (λW ok=>(aU (i:=6) eG.nd rfl lc (j4 (j4 (qv 8) qs) (sS O qs (a1 (ak (mF (N:=["number","script","desks","states","k","deck","at","words","due","head","numbers","number'"]) (k:=1) (a_.of (show g_ (aa O4) ["script","desks","states","k","deck","at","words","due","head","numbers","number"] _ ["number","script","desks","states","k","deck","at","words","due","head","numbers","number'"] 1 from ⟨by rfl,by decide,by decide,by rfl,by decide,by decide,by decide,by decide⟩)) rfl (fM O (qv 9)) (λZ s H fp=>(d8 (i:=0) (by decide) (show List.Nodup (["number","script","desks","states","k","deck","at","words","due","head","numbers","number'"]:List Str) by decide) rfl (Or.inl rfl) (Or.inr rfl))) (λZ s H fp=>jw) (λZ s H fp=>(bM rfl T.dH (a1 (qv 0))))))))))))
    (cU (v_or (Ei O hu (aa1 (λW ok=>(ak (qQ O T.dN G_i hr.m (a2 (dG ok O (qv 1) (qv 5) (λ_ _=>rfl)) (qv 6)))))) (ig O T.jn G_S hr.m (λW ok=>(a3 (dG ok O (qv 2) (qv 5) (λ_ _=>rfl)) (qv 8) (qv 9)))) (cU (aZ (λW ok=>(bI (i_ (oW nq (λ_=>.bl _)))))))) (Ei O hu (ig O T.dN afP hr.m (λW ok=>(a2 (dG ok O (qv 1) (qv 5) (λ_ _=>rfl)) (qv 6)))) (ig O T.jn G_S hr.m (λW ok=>(a3 (dG ok O (qv 2) (qv 5) (λ_ _=>rfl)) (qv 8) (qv 9)))) (cU (aZ (λW ok=>(bI (i_ (oW nq (λ_=>.bl _))))))))))))))))
    (aR (oh zL rfl (λW ok=>(fM O (ak (bG (aN qs (a3 qs qs qs)))))) (λW ok=>(aH (i:=6) eG.nd rfl lc)) (cU (oh zL rfl (λW ok=>(nP rfl T.fG (a1 qi))) (λW ok=>(aH (i:=5) eG.nd rfl lc)) (aR (aZ (λW ok=>(fj (ak (vU O (qv 6) (a1 qs))) (vX (n:=2) O rfl (aV (aH (i:=8) eG.nd rfl lc) (aV (aH (i:=10) eG.nd rfl lc) dF))))))
    (cU (Ei O hu (aa1 (λW ok=>(ak (qQ O T.dN G_i hr.m (a2 (dG ok O (qv 1) (qv 5) (λ_ _=>rfl)) (qv 6)))))) (ig O T.jn G_S hr.m (λW ok=>(a3 (dG ok O (qv 2) (qv 5) (λ_ _=>rfl)) (qv 8) (ak (bG (a1 (nY rfl T.jK (aN (qv 10) dY)))))))) (cU (aZ (λW ok=>(bI (i_ (oW nq (λ_=>.bl _)))))))))))))
    (cU (aZ (λW ok=>(bI (i_ (oW nq (λ_=>.bl _))))))))))),?_⟩
 refine aF λY B=>?_
 simp only [R,G5]
 refine λx0 e0 _ _ ne0=>⟨e0,aJ,λx1 e1 n1 n1' ne1=>⟨e1,aJ,λxD nD=>B _ _ ?_⟩⟩
 clear B Y
 have w1:upd (upd (upd (λ_=>none) e0 (HO.own x0)) x0 (HO.ins T.cl e0 [])) x0 (HO.ins T.cl e0 [(Str.ofString "base",V.int 10)]) x0=some (HO.ins T.cl e0 [(Str.ofString "base",V.int 10)]):=aJ
 have d01:x0≠x1:=bC w1 n1
 have d0e:x0≠e1:=bC w1 n1'
 generalize upd (upd (upd (λ_=>none) e0 (HO.own x0)) x0 (HO.ins T.cl e0 [])) x0 (HO.ins T.cl e0 [(Str.ofString "base",V.int 10)])=W1 at *
 have w2:upd (upd (upd W1 e1 (HO.own x1)) x1 (HO.ins T.cl e1 [])) x1 (HO.ins T.cl e1 [(Str.ofString "base",V.int 10)]) x0=some (HO.ins T.cl e0 [(Str.ofString "base",V.int 10)]):=by rw [az d01,az d01,az d0e];exact w1
 have w3:upd (upd (upd W1 e1 (HO.own x1)) x1 (HO.ins T.cl e1 [])) x1 (HO.ins T.cl e1 [(Str.ofString "base",V.int 10)]) x1=some (HO.ins T.cl e1 [(Str.ofString "base",V.int 10)]):=aJ
 generalize upd (upd (upd W1 e1 (HO.own x1)) x1 (HO.ins T.cl e1 [])) x1 (HO.ins T.cl e1 [(Str.ofString "base",V.int 10)])=W2 at *
 have a0:upd W2 xD (HO.lst [V.ref x0,V.ref x1]) x0=_:=(az (bC w2 nD)).trans w2
 have a1:upd W2 xD (HO.lst [V.ref x0,V.ref x1]) x1=_:=(az (bC w3 nD)).trans w3
 have aD:upd W2 xD (HO.lst [V.ref x0,V.ref x1]) xD=_:=aJ
 generalize upd W2 xD (HO.lst [V.ref x0,V.ref x1])=W3 at *
 refine aF λY B=>?_
 simp only [R]
 refine λs0 m0 s1 m1 xS mS=>B _ _ ?_
 clear B Y
 have tw:Y8 T.cl (upd (upd (upd W3 s0 (bK 10)) s1 (bK 10)) xS (HO.lst [V.ref s0,V.ref s1])) xD xS (λi=>if i=0 then x0 else x1) (λi=>if i=0 then s0 else s1) (λi=>if i=0 then e0 else e1) (λ_=>10):=by
  have b0:upd W3 s0 (bK 10) s0=some (bK 10):=aJ
  have s01:s0≠s1:=bC b0 m1
  have up:∀{a:Addr} {o:HO},W3 a=some o->upd (upd (upd W3 s0 (bK 10)) s1 (bK 10)) xS (HO.lst [V.ref s0,V.ref s1]) a=some o:=λ{a o} h=>by
   have h1:=(az (o:=bK 10) (bC h m0)).trans h
   have h2:=(az (o:=bK 10) (bC h1 m1)).trans h1
   exact (az (bC h2 mS)).trans h2
  have b1:upd (upd W3 s0 (bK 10)) s1 (bK 10) s0=some (bK 10):=(az s01).trans b0
  have b2:upd (upd W3 s0 (bK 10)) s1 (bK 10) s1=some (bK 10):=aJ
  refine ⟨up aD,aJ,λi hi=>?_,λi hi=>?_,λi _=>⟨by decide,by decide⟩,d01,s01⟩
  ·have:i=0\/i=1:=by omega
   rcases this with rfl|rfl
   ·exact up a0
   ·exact up a1
  ·have:i=0\/i=1:=by omega
   rcases this with rfl|rfl
   ·exact (az (bC b1 mS)).trans b1
   ·exact (az (bC b2 mS)).trans b2
 generalize (λi:Nat=>if i=0 then x0 else x1)=d at tw
 generalize (λi:Nat=>if i=0 then s0 else s1)=st at tw
 generalize (λi:Nat=>if i=0 then e0 else e1)=e at tw
 unfold bK at tw
 generalize upd (upd (upd W3 s0 (HO.dK [(Sum.inr (Str.ofString "base"),V.int 10)])) s1 (HO.dK [(Sum.inr (Str.ofString "base"),V.int 10)])) xS (HO.lst [V.ref s0,V.ref s1])=W at tw ⊢
 clear m0 m1 mS a0 a1 aD w3 w2 w1 n1 n1' nD d01 d0e ne0 ne1
 obtain ⟨I,hI⟩:∃I:Nat->Hp->aQ->Prop,I=λ_ W p=>∃(b:Nat->Int) (w3:Option D) (w4:Option (List D)) (w5 w6 U w8 w9:Option D),Y8 T.cl W xD xS d st e b/\p=[some (.d (.p8 ns)),some (.d (.atom (.ref xD))),some (.d (.atom (.ref xS))),w3.map Sl.d,w4.map Sl.own,w5.map Sl.d,w6.map Sl.d,U.map Sl.d,w8.map Sl.d,w9.map Sl.d,none]:=⟨_,rfl⟩
 obtain ⟨m,hm,hm2⟩:∃m:Nat,((if (41:Int)<(ns.length:Int) then (41:Int) else (ns.length:Int)) - 1).toNat=m/\∀i,i<m->i+1<ns.length/\i<40:=⟨_,rfl,λi hi=>by split at hi<;>omega⟩
 refine aF λY B=>?_
 refine jx (n:=m) (item:=λi=>.int (1+(i:Int))) (p1:=_) (λQ h=>by
  simp only [Q,zd]
  rw [hm]
  exact ⟨by split<;>omega,by split<;>omega,h⟩) I (by rw [hI];exact ⟨_,none,none,none,none,none,none,none,tw,rfl⟩) ?_ ?_
 ·intro i W p hi hp
  rw [hI] at hp
  obtain ⟨b,w3,w4,w5,w6,U,w8,w9,tw,rfl⟩:=hp
  obtain ⟨i1,i40⟩:=hm2 i hi
  simp only [Hg]
  refine aF λY B=>?_
  have go1:∀h,dD (3+(1+(i:Int))) h->Y W [some (.d (.p8 ns)),some (.d (.atom (.ref xD))),some (.d (.atom (.ref xS))),some (.d (.int (1+(i:Int)))),some (.own h),w5.map Sl.d,w6.map Sl.d,U.map Sl.d,w8.map Sl.d,w9.map Sl.d,none]:=λh hd=>B _ _ (by
   clear B Y
   refine aF λY B=>?_
   have go2:∀(j:Nat) h2,j<2->dD (45:Int) h2->Y W [some (.d (.p8 ns)),some (.d (.atom (.ref xD))),some (.d (.atom (.ref xS))),some (.d (.int (1+(i:Int)))),some (.own h2),some (.d (.int (j:Int))),w6.map Sl.d,U.map Sl.d,w8.map Sl.d,w9.map Sl.d,none]:=λj h2 hj hd2=>B _ _ (by
    clear B Y
    have dj:=tw.dk j hj
    have sj:=tw.st j hj
    obtain ⟨Vb,Vc⟩:=tw.rg j hj
    have aD:=wY d hj
    have aS:=wY st hj
    refine aF λY B=>?_
    have go3:∀(w6 U:Option D) h3,dD (50:Int) h3->Y W [some (.d (.p8 ns)),some (.d (.atom (.ref xD))),some (.d (.atom (.ref xS))),some (.d (.int (1+(i:Int)))),some (.own h3),some (.d (.int (j:Int))),w6.map Sl.d,U.map Sl.d,w8.map Sl.d,w9.map Sl.d,none]:=λw6 U h3 hd3=>B _ _ (by
     clear B Y
     refine aF λY B=>?_
     have go4:∀(f:Str) (ms:List Int) (h4:List D),lR f ms->Y W [some (.d (.p8 ns)),some (.d (.atom (.ref xD))),some (.d (.atom (.ref xS))),some (.d (.int (1+(i:Int)))),some (.own h4),some (.d (.int (j:Int))),w6.map Sl.d,U.map Sl.d,some (.d (.str f)),some (.d (.lst (ms.map D.int))),none]:=λf ms h4 ha=>B _ _ (by
      clear B Y
      obtain ⟨⟨bs,hb,hfit⟩,ne,l3,jH⟩:=Jg ha
      obtain ⟨hrow,hat⟩:=PK hb hfit ne l3
      have hjo:=oR (sp:=Str.ofString " ") (by decide) jH (by omega)
      refine aF λY B=>?_
      have go5:∀wd:Str,TX.rowOf wd=some (f,ms)->AT 50000 wd->Y W [some (.d (.p8 ns)),some (.d (.atom (.ref xD))),some (.d (.atom (.ref xS))),some (.d (.int (1+(i:Int)))),some (.own h4),some (.d (.int (j:Int))),some (.d (.str wd)),U.map Sl.d,some (.d (.str f)),some (.d (.lst (ms.map D.int))),none]:=λwd hr wa=>B _ _ (by
       clear B Y
       by_cases z:f=("base":Str)
       ·subst z
        refine .inr ?_
        simp only [R,ab7,S_S,tw.ds,tw.ss,aD,aS]
        cases ha with
        | one _ _ _ _ Y6=>exact absurd rfl Y6
        | base n0 n1=>
         rename_i n
         have nS:xS≠d j:=λz=>by have:=tw.ss;rw [z,dj] at this;cases this
         have nT:st j≠d j:=λz=>by rw [z,dj] at sj;unfold bK at sj;cases sj
         refine ⟨e j,b j,dj,wa,n,hr,n0,n1,_,(az nS).trans tw.ss,_,aS,_,rfl,b j,[n],rfl,(az nT).trans sj,Vb,Vc,.base n0 n1,λn' _ e=>?_,λz=>absurd rfl z⟩
         obtain rfl:n=n':=by injection e
         refine ⟨G8 (fJ _),G8 (fJ _),?_⟩
         rw [lq (G8 (fJ _)),zm rfl,hI]
         exact ⟨_,some _,some _,some _,some _,U,some _,some _,tw.put hj n0 n1,rfl⟩
       ·have hs:=Cq (cs:=cs) (b:=b j) wa ha z hr
        refine .inl ?_
        simp only [R,S_i,S_S,tw.ds,tw.ss,aD,aS]
        refine λH kp=>⟨b j,dkW dj Vb Vc hbs kp,wa,_,hs,b j,ms,rfl,sj,Vb,Vc,ha,λn e=>absurd e z,λ_=>⟨hs.ok,hs.ok,?_⟩⟩
        rw [lq hs.ok,zm rfl,hI]
        exact ⟨b,some _,some _,some _,some _,U,some _,some _,tw,rfl⟩)
      have fl:f.length<=10:=by
       have:=U_ hb
       unfold okF at this
       rw [yo,yl] at this
       exact this.2
      have jl:(f++Str.ofString " ").length+(Txt.join (Str.ofString " ") (ms.map TX.tx)).length<=100000:=by
       have h1:=yn List.length (TX.j9 (f++Str.ofString " ") (Txt.join (Str.ofString " ") (ms.map TX.tx)))
       rw [TX.cN,zj,TX.cN,TX.cN] at h1
       have:=hat.2
       omega
      have s1:(Str.ofString " ").length=1:=by decide
      simp only [S]
      refine ⟨by omega,?_⟩
      refine comp_map (n:=(ms.map D.int).length) (item:=λi=>(ms.map D.int).getD i .non) (p1:=_) (λQ h=>by simp only [Q];exact h) (by rw [zd];omega) (λi=>.str (TX.tx (ms.getD i 0))) (λi R hi h=>?_) ?_
      ·rw [zd] at hi
       rw [getD_ints hi] at h ⊢
       have hn:=jH (ms.getD i 0) (by rw [zn,zg hi];exact yh hi)
       simp only [Q]
       exact ⟨(TX.eU hn.1 hn.2).lg,h⟩
      rw [zd,tW]
      simp only [Q]
      first
       | exact ⟨_,rfl,hjo,jl,go5 _ hrow (hat.mono (by decide))⟩
       | exact ⟨hjo,jl,go5 _ hrow (hat.mono (by decide))⟩)
     simp only [R,S_C,tw.ss,aS]
     exact λH kp=>⟨_,b j,kp _ _ (gr sj) (λq hq=>by rw [show (C.add W).bs=[] from hbs] at hq;cases hq),Vb,Vc,hd3,by decide,λf ms h' ha _=>go4 f ms h' ha⟩)
    simp only [R,uW]
    refine ⟨_,hd2,by decide,λg h' g0 g1 hd'=>eX (λ_=>?_) (λ_=>go3 w6 U h' (hd'.mono (by decide)))⟩
    refine aq λk2 hk2=>?_
    simp only [R,S_V]
    refine ⟨_,hd',by decide,λwd du h3 wa hs hd3=>hk2 _ ?_⟩
    have ok:=(hs (b j)).ok
    have g3:=go3 (some (.str wd)) (some (.tup [.str du])) h3 (hd3.mono (by decide))
    simp only [Q,S_i,tw.ds,aD]
    refine λH kp=>⟨b j,dkW dj Vb Vc hbs kp,wa,_,hs _,ok,ok,?_⟩
    rw [lq ok]
    first
     | exact g3
     | (rw [zm rfl];exact g3)
     | (rw [zi (by decide)];exact g3))
   simp only [R,uW]
   refine ⟨_,hd,by omega,λg h' g0 g1 hd'=>?_⟩
   by_cases z:g=0
   ·rw [zm z];exact go2 1 h' (by decide) (hd'.mono (by omega))
   ·rw [zi z];exact go2 0 h' (by decide) (hd'.mono (by omega)))
  have hx:iy (ns.map D.int) (1+(i:Int))=some (.int (ns.getD (i+1) 0)):=by
   rw [show (1:Int)+(i:Int)=((i+1:Nat):Int) by omega]
   exact gU (by rw [zO,zg i1,zn,zg i1];rfl)
  simp only [R,ab2]
  exact ⟨_,hx,_,rfl,by omega,λh hd=>⟨by cases w4<;>rfl,go1 h hd⟩⟩
 ·intro W p hp
  rw [hI] at hp
  obtain ⟨b,w3,w4,w5,w6,U,w8,w9,tw,rfl⟩:=hp
  refine B _ _ ?_
  clear B Y hI hm hm2 I
  obtain ⟨J,hJ⟩:∃J:Nat->Hp->aQ->Prop,J=λ_ W p=>∃(b:Nat->Int) (w3:Option D) (w4:Option (List D)) (w5 w6 U w8 w9 w10:Option D),Y8 T.cl W xD xS d st e b/\p=[some (.d (.p8 ns)),some (.d (.atom (.ref xD))),some (.d (.atom (.ref xS))),w3.map Sl.d,w4.map Sl.own,w5.map Sl.d,w6.map Sl.d,U.map Sl.d,w8.map Sl.d,w9.map Sl.d,w10.map Sl.d]:=⟨_,rfl⟩
  refine aF λY B=>?_
  refine jx (n:=4) (item:=λi=>([D.str (Str.ofString "figures 123"),D.str (Str.ofString "is 121"),D.str (Str.ofString "few 1000"),D.str (Str.ofString "two 40")]).getD i .non) (p1:=_) (λQ h=>by
   simp only [Q]
   exact h) J (by rw [hJ];exact ⟨b,w3,w4,w5,w6,U,w8,w9,none,tw,rfl⟩) ?_ ?_
  ·intro i W p hi hp
   rw [hJ] at hp
   obtain ⟨b,w3,w4,w5,w6,U,w8,w9,w10,tw,rfl⟩:=hp
   obtain ⟨wd,f,nt,n,e1,e2,e3,e4,wa,hr,ha,nb⟩:=Jh i hi
   rw [e1]
   simp only [S]
   refine jx (n:=2) (item:=λj=>.int (j:Int)) (p1:=_) (λQ h=>by
    simp only [Q]
    exact h) (λ_ W p=>∃(w5 w8 w10:Option D),Y8 T.cl W xD xS d st e b/\p=[some (.d (.p8 ns)),some (.d (.atom (.ref xD))),some (.d (.atom (.ref xS))),w3.map Sl.d,w4.map Sl.own,w5.map Sl.d,some (.d (.str wd)),U.map Sl.d,w8.map Sl.d,w9.map Sl.d,w10.map Sl.d]) ⟨w5,w8,w10,tw,rfl⟩ ?_ ?_
   ·rintro j W _ hj ⟨w5,w8,w10,tw,rfl⟩
    have dj:=tw.dk j hj
    have sj:=tw.st j hj
    obtain ⟨Vb,Vc⟩:=tw.rg j hj
    have aD:=wY d hj
    have aS:=wY st hj
    have hs:=Cq (cs:=cs) (b:=b j) wa ha nb hr
    simp only [Hg]
    refine aF λkk2 afS=>?_
    have go:kk2 W [some (.d (.p8 ns)),some (.d (.atom (.ref xD))),some (.d (.atom (.ref xS))),w3.map Sl.d,w4.map Sl.own,some (.d (.int (j:Int))),some (.d (.str wd)),U.map Sl.d,some (.d (.str f)),w9.map Sl.d,some (.d (.str nt))]:=afS _ _ (by
     simp only [Q,S_i,S_S,tw.ds,tw.ss,aD,aS]
     refine λH kp=>⟨b j,dkW dj Vb Vc hbs kp,wa,_,hs,?_⟩
     refine ⟨n,e3,e4,b j,[n],rfl,sj,Vb,Vc,ha,λn e=>absurd e nb,λ_=>⟨hs.ok,hs.ok,?_⟩⟩
     rw [lq hs.ok,zm rfl]
     exact ⟨tw,some _,rfl,some _,rfl,some _,rfl⟩)
    simp only [R]
    rw [e2]
    exact ⟨zQ wa.2 (by decide),by show 2<=100000;decide,rfl,_,_,rfl,_,_,rfl,rfl,go⟩
   ·rintro W _ ⟨w5,w8,w10,tw,rfl⟩
    show J (i+1) _ _
    rw [hJ]
    exact ⟨b,w3,w4,w5,some _,U,w8,w9,w10,tw,rfl⟩
  ·intro W p hp
   rw [hJ] at hp
   obtain ⟨b,w3,w4,w5,w6,U,w8,w9,w10,tw,rfl⟩:=hp
   refine B _ _ ?_
   simp only [Q]
   exact q W
end
theorem PX {K:PySem.W.Frag} {H:Hp} {a:Addr} {ns:List Int} {E:XK} (B:ns.length<=63) (D:jr K H a (ns.map V.int)):Jk K tY [.ref a] H (λv _=>v=.bl true) E:=
 ⟨λ_=>none,[.p8 ns],H,λr _=>r=.bl true,aX.refl _,(λa o z=>by cases z),.cons (.p8 D) .nil,⟨ns,rfl,rfl,B,λ_=>rfl⟩,λr v I J H' po n=>by
  subst n
  have h:=po.res
  cases h
  rfl⟩
@[elab_as_elim] theorem Sg {α:Type} {C:List α->Prop} (us:List α) (n:us.length=1) (h:∀x0:α,C [x0]):C us:=match us,n,h with | [x0],_,h=>h x0
@[elab_as_elim] theorem aci {α:Type} {C:List α->Prop} (us:List α) (n:us.length=2) (h:∀x0 x1:α,C [x0,x1]):C us:=match us,n,h with | [x0,x1],_,h=>h x0 x1
@[elab_as_elim] theorem afT {α:Type} {C:List α->Prop} (us:List α) (n:us.length=3) (h:∀x0 x1 x2:α,C [x0,x1,x2]):C us:=match us,n,h with | [x0,x1,x2],_,h=>h x0 x1 x2
@[elab_as_elim] theorem afU {α:Type} {C:List α->Prop} (us:List α) (n:us.length=4) (h:∀x0 x1 x2 x3:α,C [x0,x1,x2,x3]):C us:=match us,n,h with | [x0,x1,x2,x3],_,h=>h x0 x1 x2 x3
section
variable {K:PySem.W.Frag} {h:Heap} {mg:Str->Option Value} (X:K.In h) (G:h.Ns mainGlobals mg)
abbrev aK {x:Str} {st:Stmt} {ps:List Str} {f:Addr} {O:Value} {J I:Option Addr} {D:Array (Option Value)} {kV z B n ct:Value} (a:PySem.W.nsIn K mainGlobals x=some (some (.ref f))) (l:K.lookup f=some ⟨O,J,.func (PySem.W.fnOf x x (kW st) (dR st) (aa st) .none kV z B I n ct),D⟩) (c:PySem.W.codeIn K n x=true) (k:PySem.W.keepIn K (.ref f)=true)
  (b:∀(kV z B:Value) (I:Option Addr) (n ct:Value) (us:List Value),us.length=ps.length->bindArgs (PySem.W.fnOf x x (kW st) (dR st) (aa st) .none kV z B I n ct) ⟨us,[]⟩=pure (ps.zip us):=by first|exact λ_ _ _ _ _ _ us hl=>K47.Sg us hl λ_=>rfl|exact λ_ _ _ _ _ _ us hl=>K47.aci us hl λ_ _=>rfl|exact λ_ _ _ _ _ _ us hl=>K47.afT us hl λ_ _ _=>rfl|exact λ_ _ _ _ _ _ us hl=>K47.afU us hl λ_ _ _ _=>rfl):aO K mg x st ps:=⟨f,_,l_ l c k,PySem.W.mg_of X G a,(l_ (st:=st) l c k).binds b⟩
theorem n1 (X:K.In h) (G:h.Ns mainGlobals mg) {x:Str} {v:Value} (a:PySem.W.nsIn K mainGlobals x=some (some v)):mg x=some v:=PySem.W.mg_of X G a
theorem n2 (X:K.In h) (G:h.Ns mainGlobals mg) {x:Str} {i:Int} {t:Tok} (a:PySem.W.nsIn K mainGlobals x=some (some (.int i t))):∃t,mg x=some (.int i t):=⟨t,PySem.W.mg_of X G a⟩
theorem n3 (X:K.In h) (G:h.Ns mainGlobals mg) {x y:Str} {t:Tok} (a:PySem.W.nsIn K mainGlobals x=some (some (.str y t))):∃t,mg x=some (.str y t):=⟨t,PySem.W.mg_of X G a⟩
abbrev kO (K:PySem.W.Frag) (u v:Value) (b:Bool):Prop:=PySem.W.kitOne K u v=some b
theorem Vd {a0 a1 a2 a3:Addr} (h0:uD K mg "NoCommand" a0) (h1:uD K mg "NoBase" a1) (h2:uD K mg "NoMirror" a2) (h3:uD K mg "NoPlace" a3) (h4:PySem.W.subIn K (.ref a0) (.ref a1)=some false) (h5:PySem.W.subIn K (.ref a0) (.ref a2)=some false) (h6:PySem.W.subIn K (.ref a0) (.ref a3)=some false) (h7:PySem.W.subIn K (.ref a0) (.ref a0)=some true) (h8:PySem.W.subIn K (.ref a1) (.ref a1)=some true) (h9:PySem.W.subIn K (.ref a1) (.ref a2)=some false) (Z:PySem.W.subIn K (.ref a1) (.ref a3)=some false) (Y:PySem.W.subIn K (.ref a1) (.ref a0)=some false) (U:PySem.W.subIn K (.ref a2) (.ref a1)=some false) (O:PySem.W.subIn K (.ref a2) (.ref a2)=some true) (J:PySem.W.subIn K (.ref a2) (.ref a3)=some false) (I:PySem.W.subIn K (.ref a2) (.ref a0)=some false) (D:PySem.W.subIn K (.ref a3) (.ref a1)=some false) (B:PySem.W.subIn K (.ref a3) (.ref a2)=some false) (z:PySem.W.subIn K (.ref a3) (.ref a3)=some true) (n:PySem.W.subIn K (.ref a3) (.ref a0)=some false):XT K mg ⟨a0,a1,a2,a3⟩:=⟨h0,h1,h2,h3,h4,h5,h6,h7,h8,h9,Z,Y,U,O,J,I,D,B,z,n⟩
theorem qy {a:Addr} {B:Option Addr} {sl:Array (Option Value)} {n:Nat} {a1 n1:Int} {z:Tok} (l:K.lookup a=some ⟨.type "tuple",B,.seq #[.int a1 z] n,sl⟩) (D:a1=n1):Qd K a [n1]:=⟨_,_,_,l,rfl,rfl,(by show 1<=sizeLine;decide),D▸.cons ⟨_,rfl⟩ .nil⟩
theorem acj {a:Addr} {D:Option Addr} {sl:Array (Option Value)} {n:Nat} {a1 n1 a2 n2:Int} {B z:Tok} (l:K.lookup a=some ⟨.type "tuple",D,.seq #[.int a1 B,.int a2 z] n,sl⟩) (J:a1=n1) (I:a2=n2):Qd K a [n1,n2]:=⟨_,_,_,l,rfl,rfl,(by show 2<=sizeLine;decide),J▸I▸.cons ⟨_,rfl⟩ (.cons ⟨_,rfl⟩ .nil)⟩
theorem ack {a:Addr} {I:Option Addr} {sl:Array (Option Value)} {n:Nat} {a1 n1 a2 n2 a3 n3:Int} {D B z:Tok} (l:K.lookup a=some ⟨.type "tuple",I,.seq #[.int a1 D,.int a2 B,.int a3 z] n,sl⟩) (U:a1=n1) (O:a2=n2) (J:a3=n3):Qd K a [n1,n2,n3]:=⟨_,_,_,l,rfl,rfl,(by show 3<=sizeLine;decide),U▸O▸J▸.cons ⟨_,rfl⟩ (.cons ⟨_,rfl⟩ (.cons ⟨_,rfl⟩ .nil))⟩
theorem Ff {a:Addr} {es:Array DictEntry} {n:Nat} {T:List (Str × Addr)} (l:K.lookup a=some ⟨.type "dict",none,.dict es n,#[]⟩) (lo:(a == sysModules)=false) (r:PyProof.Rows.KTD.Rows (λd v=>v=Value.ref d) es.toList T):KTb K a T:=⟨lo,_,_,_,l,⟨rfl,rfl,rfl⟩,rfl,r⟩
end
theorem fin {l:PySem.W.OpenLaw} {w:World} {K:PySem.W.Frag} {mg:Str->Option Value} {cs:XA} {z:Addr} (n:mg "law"=some (.ref z)) (T:Zs K mg cs):∃fd:FuncData,(∀(s:Shared) (v:Value),BindsTo s fd ⟨[v],[]⟩ [("script",v)])/\∀base:Heap,K.In base->base.Ns mainGlobals mg->bY l.prog w K mg base m8 27 z fd ["script"] (Jk K tY):=by
 obtain ⟨_,_,kV,B,I,J,D,ct,_,e,_,_⟩:=T.uT.F.ex
 have e2:z=T.uT.f:=Value.ref.inj (yg (n.symm.trans T.uT.m))
 subst e2
 refine ⟨T.uT.fd,λs v=>?_,λbase _ _=>Tn _ _ _ T⟩
 rw [e]
 exact .of_eq rfl
theorem walk {l:PySem.W.OpenLaw} {q:Program} {B:List Str} {Z:(Str->Option Value)->Heap->Prop} {I:World->Heap->Prop} {d:DefRec} {K:Params->PySem.W.Frag} (J:l.most=some 63) (D:d.params.defaults=[])
  (U:∀(w:World) (h:Heap),I w h->(K w.params).In h)
  (F:∀(w:World) (mg:Str->Option Value) (fa:Addr) (h:Heap),(K w.params).In h->h.Ns mainGlobals mg->mg d.name=some (.ref fa)->
   ∃fd:FuncData,(∀(s:Shared) (u:Value),BindsTo s fd ⟨[u],[]⟩ [("script",u)])/\∀base:Heap,(K w.params).In base->base.Ns mainGlobals mg->bY l.prog w (K w.params) mg base m8 27 fa fd ["script"] (Jk (K w.params) tY)) :
  PySem.W.WalkO q B Z I l.row.toRowW d [] (λf vs=>PySem.call f vs):=
 L2.Ft (n:=63) (k:=27) (x:="script") (CX:=λ_=>m8) (sp:=λw=>Jk (K w.params) tY) J (by decide) D ⟨rfl,by decide,by decide,rfl⟩ U F (λ_ _ a ns O _ Y=>PX O Y) λ_ _ _ _ _ z=>z
end K47
namespace PySem.W.Fast
def tw9667687154545964580:=()
def tw8881604622851790919:=()
def tw8250454551451155983:=()
def tw16666247943203220317:=()
def tw17595512734504576409:=()
def tw8497270904301611114:=()
def tw8362931297478252742:=()
def tw16246452216439534801:=()
def tw5591299742391691096:=()
def tw7255922386751584711:=()
def tw5737497326002971936:=()
def tw3094894769191856931:=()
def tw16948791647761651386:=()
def tw2344068271946789954:=()
def tw11840730952753831917:=()
def tw16331608228132280309:=()
def tw5348915939413183555:=()
def tw12958450124269175436:=()
def tw8079572576774456854:=()
def tw3264001146384460780:=()
def tw18196177276767495706:=()
def tw16295015955251007471:=()
def tw14211813033838343424:=()
def tw6739566766403848623:=()
def tw14799828029472275176:=()
def tw8723147509501701182:=()
def tw6964752025909781958:=()
def tw9304759278805314643:=()
def tw10439955644753316622:=()
def tw8854855542502472629:=()
def tw11109484552272486701:=()
def tw2498591220361994369:=()
def tw17752805246510127094:=()
def tw6899693085768669847:=()
def tw15326134186395654862:=()
def tw16492830672952036467:=()
def tw583572496768731125:=()
def tw6337289894655372668:=()
def tw7335833431720256811:=()
def tw6585399075117984993:=()
def tw7133255008342127837:=()
def tw5504437153327860119:=()
def tw14909555391368461712:=()
def tw6061014925318204856:=()
def tw5549712356292228301:=()
def tw6681610663063922117:=()
def tw4760571651948140181:=()
def tw6622368270626725337:=()
def tw6533177314589710893:=()
def tw10380718837659218873:=()
def tw792147430359504339:=()
def tw16696468194271588522:=()
def tw12951603298664806668:=()
def tw6932030863962182401:=()
def tw17112832178641361984:=()
def tw10316825593458919027:=()
def tw7453016444655249538:=()
def tw14027623937786400177:=()
def tw1346797630797022120:=()
def tw8979509249137825967:=()
def tw13567878269094966321:=()
def tw3182017826030058675:=()
def tw291777442165881289:=()
def tw4495780796389838088:=()
def tw10970978194604857201:=()
def tw280899734185154970:=()
def tw1798602702091197778:=()
def tw7378799215348639751:=()
def tw15174103769637432249:=()
def tw4172939846557141665:=()
def tw6380673895479790899:=()
def tw15712283771394409676:=()
def tw8030014865919176075:=()
def tw2968660600423624455:=()
def tw3643381678078754771:=()
def tw10228985676268078587:=()
def tw7168548666987763841:=()
def tw9877519733895601040:=()
def tw15669411995307575771:=()
def tw15920267953157117242:=()
def tw7579698557165462475:=()
def tw8766793055583082076:=()
def tw17097787760015954891:=()
def tw12748876412854446390:=()
def tw4215230858488275890:=()
def tw16736331918371199114:=()
def tw5921111475257006492:=()
def tw14158605166513617295:=()
def tw13404409901041222309:=()
def tw2223504778312112559:=()
def tw896536377110429787:=()
def tw14268161208824366097:=()
def tw8908787063010130405:=()
def tw18311932359280525240:=()
def tw14867355750007146336:=()
def tw6052862352176773792:=()
def tw8516964037526769742:=()
def tw16623212622304159964:=()
def tw119521614874853671:=()
def tw15701667616332681388:=()
def tw8598740418534552633:=()
def tw14667231861001429909:=()
def tw16917772427609024504:=()
def tw5787401352408350936:=()
def tw2323878239345967624:=()
def tw1345901388720332764:=()
def tw11586305183453695641:=()
def tw18280894786068793380:=()
def tw12366742279239081896:=()
def tw17526481516390219897:=()
def tw12174265608432158478:=()
def tw7560821922364898009:=()
def tw7179531359503699352:=()
def tw4178413703467662561:=()
def tw9148558670144728671:=()
def tw18140124149808265222:=()
def tw11004556365700893313:=()
def tw7325718733692228070:=()
def tw17048554851271741582:=()
def tw11339899973778312335:=()
def tw12479965565152127537:=()
def tw9806274460441658135:=()
def tw16231664157826549403:=()
def tw14420272001556904933:=()
def tw16406636062962593533:=()
def tw1704636713454227373:=()
def tw13523441274654839699:=()
def tw6085802268041800468:=()
def tw8847607213388993278:=()
def tw13070315444096520297:=()
def tw3911587312467830905:=()
def tw1020661489613205207:=()
def tw16147112238829371603:=()
def tw5011598034822432668:=()
def tw15394834994595748309:=()
def tw17396059408838956805:=()
def tw7208352827886368790:=()
def tw8823663242342758104:=()
def tw9404279545914851882:=()
def tw18405891587763199668:=()
def tw13394067202646497737:=()
def tw10976220993832047433:=()
def tw11517676127740467824:=()
def tw2958498365450048032:=()
def tw18327489293654002254:=()
def tw10467850625009750307:=()
def tw3458701912087613385:=()
def tw15193978260478933342:=()
def tw4822025447849667892:=()
def tw11809372963757068181:=()
def tw6258285970248011511:=()
def tw5806258492740264829:=()
def tw9140480052068476509:=()
def tw342271061495543336:=()
def tw3613504088239277496:=()
def tw5231244361831940456:=()
def tw14871973301419871630:=()
def tw14929614379863954402:=()
def tw471675188773174097:=()
def tw13705946091663452883:=()
def tw18412126997102167920:=()
def tw6399990670402666508:=()
def tw12449530361834884046:=()
def tw11955434422107801035:=()
def tw3525620085405233894:=()
def tw5037270283465747103:=()
def tw7521558269891127334:=()
def tw12074004591390032088:=()
def tw11715078110532257745:=()
def tw17592313215458450917:=()
def tw2376796545910497626:=()
def tw16159442099980390520:=()
def tw402308547821843618:=()
def tw6621484951998339614:=()
def tw22935816985349191:=()
def tw16218991973156177357:=()
def tw5715666805967353834:=()
def tw11618893490754980866:=()
def tw9387751417987081177:=()
def tw2123654366442706018:=()
def tw11093473736105060162:=()
def tw7622964532086444642:=()
def tw2851224070527625803:=()
def tw3929441724207792764:=()
def tw17325845535437638533:=()
def tw362270631087237131:=()
def tw5051471999373571583:=()
def tw2876182272665439069:=()
def tw15012126589880073661:=()
def tw14761224405808610189:=()
def tw3471390950490778962:=()
def tw4431712028477892946:=()
def tw17155652519348225336:=()
def tw6459239333674263738:=()
def tw1138282025644263521:=()
def tw7474821790792392228:=()
def tw3794305765713609499:=()
def tw15591168868022844554:=()
def tw16903087878172423776:=()
def tw13802336193034734208:=()
def tw7149873620908494537:=()
def tw16529712343148939470:=()
def tw11045323826111490672:=()
def tw8369732396847029374:=()
def tw1804932414408197076:=()
def tw11759279624207071742:=()
def tw18067669442617440811:=()
def tw5339528502728751499:=()
def tw2453579228271981651:=()
def tw12788983069549484817:=()
def tw6965928886108065908:=()
def tw2505030718368505290:=()
def tw7146976649075887989:=()
def tw14989029355479895493:=()
def tw9408679038805334912:=()
def tw9538379113336016960:=()
def tw17108008429980972421:=()
def tw12864889125287635592:=()
def tw439900197962370004:=()
def tw8105514179845242542:=()
def tw5943370432477807575:=()
def tw823061057028263514:=()
def tw13154311286380128511:=()
def tw896949045885234014:=()
def tw16528145226589591695:=()
def tw2399584603926008846:=()
def tw7599089396432618931:=()
def tw2466139271990709519:=()
def tw8450689212041256599:=()
def tw12130029730201551123:=()
def tw2683468035233117780:=()
def tw10673207480964170791:=()
def tw5576005423423742415:=()
def tw7953509565087385899:=()
def tw15392474779392113824:=()
def tw2099458240885942264:=()
def tw9763635278513143670:=()
def tw2146632385083185664:=()
def tw1074095718925026768:=()
def tw12569208158856042535:=()
def tw3439618024911661295:=()
def tw3945092652984444374:=()
def tw9219681560383464940:=()
def tw17013995484694654254:=()
def tw333462197186283207:=()
def tw3838633243225837175:=()
def tw15481012278524625033:=()
def tw12067950862140140956:=()
def tw7219277572202883305:=()
def tw10970189592817972865:=()
def tw2225972280470164702:=()
def tw13276335335511589744:=()
def tw17833849244796116052:=()
def tw7511162613893061999:=()
def tw1244107158335947043:=()
def tw7776005491219979381:=()
def tw11073362250990303235:=()
def tw11338081559842134615:=()
def tw10836561494186330872:=()
def tw13271420198411715155:=()
def tw17184539357219357029:=()
def tw2021259284181718514:=()
def tw18102677560759019486:=()
def tw1586634920063820770:=()
def tw1959834553256901182:=()
def tw13563198756050101314:=()
def tw5994318348099593360:=()
def tw13465718584655868558:=()
def tw5860062530610793748:=()
def tw17027225668894348421:=()
def tw9517045268711253675:=()
def tw2560166968614548041:=()
def tw709734894311782078:=()
def tw8765605621141839636:=()
def tw13621072428758660911:=()
def tw4478329387595225603:=()
def tw273425571546028303:=()
def tw13984636781885614668:=()
def tw10632847098893383136:=()
def tw533210822045170196:=()
def tw16965056718340345681:=()
def tw9066465327931276920:=()
def tw14888819494355991429:=()
def tw2985956109845922672:=()
def tw16846170673141392949:=()
def tw17426385383522354245:=()
def tw11612915119230047191:=()
def tw1584435479239051852:=()
def tw4484447167243163487:=()
def tw6788450595683770164:=()
def tw18365371727203128061:=()
def tw15264600983255152404:=()
def tw7456526849785905806:=()
def tw16082811396232995129:=()
def tw15790226937775125655:=()
def tw262349395433088625:=()
def tw18336129575868375445:=()
def tw2259840346176195942:=()
def tw5644482032588857757:=()
def tw6476192048302999346:=()
def tw15078409531991258749:=()
def tw9340287212151423560:=()
def tw12682835594086661426:=()
def tw11703331025622958361:=()
def tw9900180729308101824:=()
def tw1125115928687929794:=()
def tw1368687899064351944:=()
def tw13355949680561116473:=()
def tw3536423302015332424:=()
def tw10618325192202958048:=()
def tw11039952563783994192:=()
def tw10413801695764886951:=()
def tw6630221585068287698:=()
def tw7274005596768613122:=()
def tw6402801414699134866:=()
def tw7188604134909223790:=()
def tw14872114624377214920:=()
def tw2360803684053890285:=()
def tw1704050315377850789:=()
def tw14216326814484561609:=()
def tw17994538305289472424:=()
def tw5994000314198070421:=()
def tw15935184935440709502:=()
def tw17876719635541634363:=()
def tw10728813263973143696:=()
def tw11869908544951612726:=()
def tw6744039851557728471:=()
def tw6561716330857016958:=()
def tw1467165375475858918:=()
def tw14088103553140421780:=()
def tw13937438667620510756:=()
def tw4187519810324826338:=()
def tw2006659052364118164:=()
def tw14028494007420901570:=()
def tw6588828394426251191:=()
def tw15710220305446263679:=()
def tw8399270496468132145:=()
def tw11457385646112034693:=()
def tw14299107981531185386:=()
def tw14943782965189953152:=()
def tw1953688012569294010:=()
def tw4711206877430884728:=()
def tw3065976114423731872:=()
def tw15251804538847895654:=()
def tw16467541630114339918:=()
def tw3853685716291647433:=()
def tw1699977559114299537:=()
def tw720831411440805339:=()
def tw9867923085860833103:=()
def tw12688191773398309638:=()
def tw2517596554792469158:=()
def tw935379016014903651:=()
def tw7498407255666275984:=()
def tw12484056461585327697:=()
def tw6874422114235164276:=()
def tw11087896829119627991:=()
def tw10823064996125799656:=()
def tw3722537160523168414:=()
def tw13394720953355369374:=()
def tw7112433946853894134:=()
def tw2573870370728206833:=()
def tw17548333953478850297:=()
def tw15229032794461400549:=()
def tw7218184878084901465:=()
def tw15780462379601992473:=()
def tw6065613375460120570:=()
def tw5563577860770219702:=()
def tw9049029918790213983:=()
def tw17764861708625668018:=()
def tw17338086293546995747:=()
def tw13507679361649782357:=()
def tw8859896151298234311:=()
def tw15066151417339694217:=()
def tw6348710397174860046:=()
def tw5142049343159534033:=()
def tw15545154442747301972:=()
def tw716619516652423397:=()
def tw13059389702696374977:=()
def tw17550054157418382650:=()
def tw13875319824102392833:=()
def tw3718357286730373159:=()
def tw7804181978665755326:=()
def tw3316370076818762246:=()
def tw9290721138083917635:=()
def tw1339539951529247431:=()
def tw16235250578611377683:=()
def tw12199990002349588488:=()
def tw12792138774475308096:=()
def tw2088659613286485116:=()
def tw5603628501788238147:=()
def tw14246992595709443522:=()
def tw10116878402887661571:=()
def tw3547691556319789601:=()
def tw16655093463634897869:=()
def tw11408593191601589651:=()
def tw14134859220335991924:=()
def tw2885500785230130456:=()
def tw16563684143147127181:=()
def tw6612309040967509847:=()
def tw17223552646119599896:=()
def tw16394475414498836588:=()
def tw149933724387095355:=()
def tw16397218917498245758:=()
def tw16708400731946728167:=()
def tw1730598869646422921:=()
def tw4998661204505492093:=()
def tw14691433038559449093:=()
def tw3947853551139479787:=()
def tw4588211356504056193:=()
def tw12725586260062524237:=()
def tw16972882427978643326:=()
def tw6467850597254367850:=()
def tw1097345360533202056:=()
def tw6217440834721273843:=()
def tw15948016289444531030:=()
def tw9916921834510303080:=()
def tw3072831206071880146:=()
def tw5933264240493250445:=()
def tw2089228428109067939:=()
def tw13083682930883675669:=()
def tw6099379437942348288:=()
def tw7201060533053549786:=()
def tw11070748423854248622:=()
def tw4521382828529952421:=()
def tw1000227771505512390:=()
def tw2900519451819532662:=()
def tw13434899461255939163:=()
def tw13498310984587717152:=()
def tw17004570803187793339:=()
def tw9271779501616798219:=()
def tw9698202220151963264:=()
def tw7474641809754941527:=()
def tw1558080065265445194:=()
def tw10922499107589229360:=()
def tw672449337573018089:=()
def tw11821053884826380570:=()
def tw5898123822368934169:=()
def tw18117492715243741833:=()
def tw15955918425237007872:=()
def tw9687587260038801846:=()
def tw10027965867426736149:=()
def tw1307014070924683768:=()
def tw4501037604777891899:=()
def tw14106316471092045012:=()
def tw16002243693351335116:=()
def tw11317961613066832617:=()
def tw3946171598579681464:=()
def tw12706739794915274363:=()
def tw18267009317809063127:=()
def tw2318998141658727318:=()
def tw8387345857758660628:=()
def tw7176507726591540679:=()
def tw17708721036745774881:=()
def tw11471822525750518262:=()
def tw11459911437432533483:=()
def tw16583972046511688484:=()
def tw13631928380586606758:=()
def tw7048871687111698648:=()
def tw16954066878888090502:=()
def tw16050895660631123477:=()
def tw16844342027545490933:=()
def tw6267027407312904405:=()
def tw13028262338909867616:=()
def tw3078712213568449076:=()
def tw1673820493719554196:=()
def tw564424517666701227:=()
def tw4832135301101377814:=()
def tw17012745262583426324:=()
def tw3468315702617756857:=()
def tw15319165668276964637:=()
def tw12081110645907271057:=()
def tw8397489494212722190:=()
def tw7155599964866174587:=()
def tw15952223201224249034:=()
def tw118238110095696264:=()
def tw1356548524397286421:=()
def tw4458762254898670466:=()
def tw5175094035962477095:=()
def tw11747478739711369148:=()
def tw12485519767500595443:=()
def tw1792122974261304013:=()
def tw17292346519297265916:=()
def tw5045828260633108398:=()
def tw9843380689820173656:=()
def tw9239999396609715817:=()
def tw17849166945072876604:=()
end PySem.W.Fast
open PySem PySem.W PyProof.Rows
open K47 (Vd aK n1 n2 n3 qy acj ack Ff)
open L2 (l_ L_ nZ gV Rw Xz)
set_option maxRecDepth 100000 in
set_option maxHeartbeats 0 in
theorem PySem.Challenge.cw_mirrorsums_k47_desk_answers_holds : PySem.Challenge.rw_mirrorsums_k47_desk_answers.Holds := by
 w_on;o_law;k_head;(case hw=>w_witness2)
 k_fill
 refine K47.walk (l:=PySem.Challenge.rw_mirrorsums_k47_desk_answers) rfl rfl (λw h Y=>PySem.W.kIn_of Y) ?F
 case F=>
  intro w mg fa h KX G hmg
  refine' K47.fin hmg ⟨⟨xb KX G ?_,xb KX G ?_,xb KX G ?_,xb KX G ?_,xb KX G ?_,xb KX G ?_,xb KX G ?_,xb KX G ?_,xb KX G ?_,xb KX G ?_,xb KX G ?_,n2 KX G ?_,n2 KX G ?_,n2 KX G ?_,n2 KX G ?_,n3 KX G ?_,n3 KX G ?_⟩,Vd ⟨n1 KX G ?_,nZ ?l1 (gV ?d1 ?o1) ?i1 ?l (gV ?d ?o) ?i⟩ ⟨n1 KX G ?_,nZ ?l2 (gV ?d2 ?o2) ?i2 ?l (gV ?d ?o) ?i⟩ ⟨n1 KX G ?_,nZ ?l3 (gV ?d3 ?o3) ?i3 ?l (gV ?d ?o) ?i⟩ ⟨n1 KX G ?_,nZ ?l4 (gV ?d4 ?o4) ?i4 ?l (gV ?d ?o) ?i⟩ ?_ ?_ ?_ ?_ ?_ ?_ ?_ ?_ ?_ ?_ ?_ ?_ ?_ ?_ ?_ ?_,aK KX G ?_ ?_ ?_ ?_,aK KX G ?_ ?_ ?_ ?_,aK KX G ?_ ?_ ?_ ?_,aK KX G ?_ ?_ ?_ ?_,aK KX G ?_ ?_ ?_ ?_,aK KX G ?_ ?_ ?_ ?_,aK KX G ?_ ?_ ?_ ?_,aK KX G ?_ ?_ ?_ ?_,aK KX G ?_ ?_ ?_ ?_,aK KX G ?_ ?_ ?_ ?_,aK KX G ?_ ?_ ?_ ?_,aK KX G ?_ ?_ ?_ ?_,aK KX G ?_ ?_ ?_ ?_,aK KX G ?_ ?_ ?_ ?_,aK KX G ?_ ?_ ?_ ?_,aK KX G ?_ ?_ ?_ ?_,aK KX G ?_ ?_ ?_ ?_,aK KX G ?_ ?_ ?_ ?_,aK KX G ?_ ?_ ?_ ?_,aK KX G ?_ ?_ ?_ ?_,aK KX G ?_ ?_ ?_ ?_,aK KX G ?_ ?_ ?_ ?_,aK KX G ?_ ?_ ?_ ?_,aK KX G ?_ ?_ ?_ ?_,aK KX G ?_ ?_ ?_ ?_,aK KX G ?_ ?_ ?_ ?_,aK KX G ?_ ?_ ?_ ?_,aK KX G ?_ ?_ ?_ ?_,aK KX G ?_ ?_ ?_ ?_,aK KX G ?_ ?_ ?_ ?_,aK KX G ?_ ?_ ?_ ?_,aK KX G ?_ ?_ ?_ ?_,aK KX G ?_ ?_ ?_ ?_,aK KX G ?_ ?_ ?_ ?_,aK KX G ?_ ?_ ?_ ?_,aK KX G ?_ ?_ ?_ ?_,aK KX G ?_ ?_ ?_ ?_,aK KX G ?_ ?_ ?_ ?_,aK KX G ?_ ?_ ?_ ?_,aK KX G ?_ ?_ ?_ ?_,aK KX G ?_ ?_ ?_ ?_,aK KX G ?_ ?_ ?_ ?_,aK KX G ?_ ?_ ?_ ?_,aK KX G ?_ ?_ ?_ ?_,aK KX G ?_ ?_ ?_ ?_,aK KX G ?_ ?_ ?_ ?_,aK KX G ?_ ?_ ?_ ?_,aK KX G ?_ ?_ ?_ ?_,aK KX G ?_ ?_ ?_ ?_,aK KX G ?_ ?_ ?_ ?_,aK KX G ?_ ?_ ?_ ?_,aK KX G ?_ ?_ ?_ ?_,aK KX G ?_ ?_ ?_ ?_,aK KX G ?_ ?_ ?_ ?_,aK KX G ?_ ?_ ?_ ?_,aK KX G ?_ ?_ ?_ ?_,aK KX G ?_ ?_ ?_ ?_,aK KX G ?_ ?_ ?_ ?_,?aB,?tB,n1 KX G ?_,Ff ?lB ?oB ?rB,?bB,?aA,n1 KX G ?_,Ff ?lA ?oA ?rA,?cl,n1 KX G ?_,⟨?_,?_,?_,?_⟩,?cna,?fsay,⟨?_,?_,?_⟩,?fdsay,l_ ?sl ?sc ?sk,(l_ (st:=K47.O2) ?sl ?sc ?sk).binds (λ_ _ _ _ _ _ us hl=>K47.aci us hl λ_ _=>rfl),?fini,⟨?_,?_,?_,?_⟩,?fdini,l_ ?il ?ic ?ik,(l_ (st:=K47.Yz) ?il ?ic ?ik).binds (λ_ _ _ _ _ _ us hl=>K47.Sg us hl λ_=>rfl)⟩
  any_goals (show _=_;k_is)
  any_goals (show (_ == _)=_;decide)
  case rB=>exact .cons rfl rfl (.cons rfl rfl (.cons rfl rfl (.cons rfl rfl (.cons rfl rfl (.cons rfl rfl (.cons rfl rfl (.cons rfl rfl (.cons rfl rfl (.cons rfl rfl (.cons rfl rfl (.cons rfl rfl (.cons rfl rfl .nil))))))))))))
  case rA=>exact .cons rfl rfl (.cons rfl rfl (.cons rfl rfl (.cons rfl rfl (.cons rfl rfl (.cons rfl rfl (.cons rfl rfl (.cons rfl rfl (.cons rfl rfl (.cons rfl rfl (.cons rfl rfl (.cons rfl rfl .nil)))))))))))
  case bB=>(refine' .cons (qy ?_ ?_) (.cons (qy ?_ ?_) (.cons (qy ?_ ?_) (.cons (qy ?_ ?_) (.cons (qy ?_ ?_) (.cons (qy ?_ ?_) (.cons (qy ?_ ?_) (.cons (qy ?_ ?_) (.cons (qy ?_ ?_) (.cons (qy ?_ ?_) (.cons (qy ?_ ?_) (.cons (acj ?_ ?_ ?_) (.cons (ack ?_ ?_ ?_ ?_) .nil))))))))))))<;>(try first|k_is|rfl|decide))
  try (case cna=>(unfold L2.iK;k_is))
  all_goals first|rfl|k_is
