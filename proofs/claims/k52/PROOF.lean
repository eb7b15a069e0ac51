import PyProof.Rows.All
import Wide.All
import OpenK.AllK
import Wide.FinOn
import Lean
import PyProof.EqAt
import PyProof.EqKinds
import PyProof.TupleCall
import PyProof.AttrMissHeap
import PySem.Challenge.RW_sealchain_k52_whole_what_stands
set_option tactic.hygienic false
set_option Elab.async false
set_option linter.all false
set_option maxRecDepth 100000
set_option bootstrap.genMatcherCode false
set_option compiler.extract_closed false
set_option backward.eqns.nonrecursive false
set_option genSizeOf false
set_option genInjectivity false
set_option maxHeartbeats 40000000
namespace Lake
def rr {b:Sort _}{a:b}:a=a:=rfl
def cX {p:Prop}(h:∀q:Prop,(p->q)->q):p:=h p id
def N9 {p:Prop}(h:p:=by lia):p:=h
def M_ {p:Prop}(h:p:=by solve_by_elim only[*,Nat.le_trans,Nat.lt_of_lt_of_le,Nat.lt_of_le_of_lt,Nat.le_of_lt]):p:=h
def A_ {p:Prop}(h:p:=by assumption):p:=h
def O_ {p:Prop}(h:p:=by omega):p:=h
def C_ {p:Prop}(h:p:=by repeat constructor):p:=h
def H9 {p:Prop}(h:p:=by simp):p:=h
def I9 {p:Prop}(h:p:=by decide):p:=h
def s9 {p:Prop}(h:p:=by decide +kernel):p:=h
def q9 {p:Prop}(h:p:=by rfl):p:=h
def N8 {p:Prop}(h:p:=by simp;lia):p:=h
def H8 {p:Prop}(h:p:=by simp[sizeLine]):p:=h
def x8 {p:Prop}(h:p:=by kernel_rfl):p:=h
def h8 {p:Prop}(h:p:=by size_fits):p:=h
def mY {b:Type _}{a:b}l{k:List b}(h:a∈k):a∈l++k:=List.mem_append_right l h
def mZ {c:Type _}b{a:c}{l:List c}(h:a∈l):a∈b::l:=List.mem_cons_of_mem b h
theorem mX {b:Type _}{a:b}{l:List b}:a∈a::l:=List.mem_cons_self
def oX {c M:Type _}{o:Option c}{f:c->Option M}{b:M}(h:o.bind f=some b):∃a,o=some a/\f a=some b:=Option.bind_eq_some_iff.mp h
def oY {c M:Type _}{f:c->M}{o:Option c}{b:M}(h:o.map f=some b):∃a,o=some a/\f a=b:=Option.map_eq_some_iff.mp h
def wX:=@PySem.wpAny_bind
def wY:=@PySem.wpAny_pure
def vZ:=@PySem.Heap.get?_push_of_some
def vY:=@PySem.Heap.get?_push_size
def vX:=@PySem.Heap.lt_size
def vW:=@PySem.Heap.SameBut.update
def vV {b:Type _}{l:List b}{a:b}(h:l[i]? = some a):∃h:i<l.length,l[i]=a:=List.getElem?_eq_some_iff.mp h
def vU {a:Type _}{l:List a}{i:Nat}h:l[i]? = some l[i]:=List.getElem?_eq_getElem h
def vT (n:Nat):n<=n:=Nat.le_refl n
def vS {a b:Nat}(h:a<b):a≠b:=Nat.ne_of_lt h
def vR {n m k:Nat}:n<=m->m<=k->n<=k:=Nat.le_trans
def vQ {n m k:Nat}:n<m->m<=k->n<k:=Nat.lt_of_lt_of_le
def vP {c:Type _}{a b:c}{l:List c}(h:b∈a::l):b=a\/b∈l:=List.mem_cons.mp h
def vO {c M:Type _}{b:M}{f:c->M}{l:List c}(h:b∈l.map f):∃a,a∈l/\f a=b:=List.mem_map.mp h
def eX {c M:Type _}{o:Option c}{f:c->Option M}{b:M}(h:o.bind f=some b)(k:∀a,o=some a->f a=some b->G):G:=(oX h).elim λa x=>k a x.1 x.2
def eS {c M:Type _}{f:c->M}{o:Option c}{b:M}(h:o.map f=some b)(k:∀a,o=some a->f a=b->G):G:=(oY h).elim λa x=>k a x.1 x.2
def vN {b:Type _}{a:b}{p:b->Bool}{l:List b}(h:a∈l.filter p):a∈l/\p a=true:=List.mem_filter.mp h
def vM {a:Type _}p(l:List a):(l.filter p).length<=l.length:=List.length_filter_le p l
def vL {b:Type _}{l:List b}{i:Nat}{a:b}(h:l[i]? = some a):a∈l:=List.mem_of_getElem? h
def vK {c:Type _}{a b:c}(h:some a=some b):a=b:=Option.some.inj h
def vJ {b M:Type _}(a:b)(f:b->Option M):(some a).bind f=f a:=rfl
def vI {a M:Type _}{b:List a}(f:a->M):(b.map f).length=b.length:=List.length_map f
def vH {a:Type _}{l:List a}:l.toArray.size=l.length:=rfl
def vG {b:Type _}{a:Array b}:a.toList.length=a.size:=rfl
def vF {b:Type _}{l:List b}{a:b}:l.getD i a=l[i]?.getD a:=List.getD_eq_getElem?_getD
def vE {b:Type _}{a:b}{c:List b}:(a::c).length=c.length+1:=rfl
def vC a b:((a && b)=true)=(a=true/\b=true):=Bool.and_eq_true a b
def vB {b:Type _}{a:b}{l:List b}(h:i≠j):(l.set i a)[j]? = l[j]?:=List.getElem?_set_ne h
def vA {a M:Type _}{f:a->M}{l:List a}{i:Nat}:(l.map f)[i]? = Option.map f l[i]?:=List.getElem?_map
def uZ {c:Type _}{a b:List c}:(a++b).length=a.length+b.length:=List.length_append
def uY {b M:Type _}{f:b->M}{a:b}{l:List b}:(a::l).map f=f a::l.map f:=rfl
def uX:false≠true:=Bool.false_ne_true
def uW {a O:Type _}{f:a->O}{l M:List a}:(l++M).map f=l.map f++M.map f:=List.map_append
def uV:(false=true)=False:=Bool.false_eq_true
def uU {b:Type _}{x:Option b}(h:x.isSome=true):∃a,x=some a:=Option.isSome_iff_exists.mp h
def uT {c:Type _}{a b:c}(h:a∈[b]):a=b:=List.mem_singleton.mp h
def uS {c M:Type _}{b:M}{f:c->M}{l:List c}(h:∃a,a∈l/\f a=b):b∈l.map f:=List.mem_map.mpr h
def uQ {b:Type _}(a:List b):a++[]=a:=List.append_nil a
def uP {a M O:Type _}{g:M->O}{f:a->M}{l:List a}:(l.map f).map g=l.map (g ∘ f):=List.map_map
def uN n:0<=n:=Nat.zero_le n
def qV[Decidable p](h:p):decide p=true:=decide_eq_true h
def yK[Decidable p](h:¬p):decide p=false:=decide_eq_false h
def HN[Decidable p](h:decide p=true):p:=of_decide_eq_true h
noncomputable section
abbrev _root_.PySem.Shared.z (s:PySem.Shared):=s.heap.objs.size
open PySem.W (Frag kia_one fnOf nsIn mg_of)
open List (mem_append mem_append_left getElem?_set_self mem_filterMap any_eq_false nodup_cons of_mem_zip getElem?_append_right getElem?_append_left take_sublist length_take length_drop length_set all_cons any_cons nodup_nil lookup_cons length_replicate append_assoc not_mem_nil length_range all_eq_true mem_singleton find?_cons getElem_mem nodup_append take_add_one mem_range getElem?_eq_none ext_getElem? not_lt pairwise_cons lt_irrefl lt_trans nil_perm cons_lt_cons_iff cons_append mem_iff_getElem? getElem?_zip_eq_some length_zip zip_cons_cons foldl_cons take_length length_zipIdx zip_map' filter_sublist pairwise_map filter_eq_nil_iff mem_of_mem_take mem_filter flatMap_cons length_singleton map_id mem_cons filter_cons length_nil pairwise_append filter_append mem_flatMap any_append any_eq_true map_drop forall_mem_cons)
open Nat (le_of_lt ne_of_gt le_succ_of_le le_succ le_of_eq lt_of_le_of_lt lt_succ_of_lt)
open Bool (eq_false_iff not_eq_true or_eq_true not_eq_true' not_not not_eq_false')
open PySem.F (slot_tuple_add entry_tuple_add args_tuple_add_2 slot_dict_get entry_dict_get plainAttrs_dict type_dict_get plainAttrs_list slot_tuple_iterator_next slot_zip_next entry_zip_next args_zip_next_1 called_set slot_set_iter plain_extend_loop slot_tuple_lt slot_tuple_gt slot_list_getattribute)
abbrev QV:=PySem.Value->PySem.Shared->Prop
abbrev AO:=List (PySem.Addr×PySem.Obj)
abbrev SV:=PySem.Str->Option PySem.Value
abbrev LU:=List PySem.Value
abbrev AV:=Array PySem.Value
abbrev LS:=List PySem.Str
abbrev QD:=List PySem.Expr
abbrev LN:=List Nat
abbrev LI:=List Int
abbrev OI:=Option Int
namespace L2
open PySem PySem.Spec PyProof.Rows
abbrev dS (e:Expr)(a:QD)(v:PySem.Env):Prop:=starEach (e::a) v=(false,eval e v)::starEach a v
abbrev d4 (e:Expr)(v:PySem.Env):Prop:=starEach [e] v=[(false,eval e v)]
abbrev k7 (p:Pos)(a:QD)(v:PySem.Env):Prop:=(backTo p (starEach a v)).any (·.1)=false
abbrev bB (x:Str):Prop:=(x == ("__debug__" : Str))=false
abbrev mo (x:Str):Prop:=(x == ("__classdict__" : Str))=false
abbrev qi (p:Pos)(e:Expr)(v:PySem.Env):Prop:=((backTo p (starEach [e] v)).all (λx=>!x.1) && (backToKw p (keywordEach [] v)).all (λx=>x.1.isSome)
  && decide (([e]:QD).length+([]:List Keyword).length+(if([]:List Keyword).isEmpty then 0 else 1)<30))=true
abbrev dH:=Sum Int Str
noncomputable def vj:dH->Value->Bool
 |.inl k,v=>Value.isInt k v
 |.inr x,v=>Value.isStrOf x v
noncomputable def aaf (w:World):dH->Int
 |.inl k=>hashInt k
 |.inr x=>hashStr w x
theorem d5:∀ {k:dH}{v:Value},vj k v=true->(∃i t,k=Sum.inl i/\v=Value.int i t)\/(∃x t,k=Sum.inr x/\v=Value.str x t)
 |.inl i,v,h=>by
  obtain⟨t,e⟩:=Value.isInt_shape h;exact .inl ⟨i,t,rr,e⟩
 |.inr x,v,h=>by
  obtain⟨t,e⟩:=Value.isStrOf_shape h;exact .inr ⟨x,t,rr,e⟩
def Rc a b:decide ((Sum.inl a:dH)=Sum.inl b)=(a == b):=by
 lia
def Re a b:decide ((Sum.inr a:dH)=Sum.inr b)=decide (a=b):=by
 simp
def Rf (a:Int)(b:Str):decide ((Sum.inl a:dH)=Sum.inr b)=false:=q9
def Rh (a:Str)(b:Int):decide ((Sum.inr a:dH)=Sum.inl b)=false:=q9
def cO (c:Program)(w:World):PySem.KeyKind c w dH where
 is:=vj
 hash:=aaf w
 inj:=λv a b r z=>by
  grind[d5]
 byValue:=λk v h=>by
  rcases d5 h with⟨i,t,rfl,rfl⟩|⟨x,t,rfl,rfl⟩<;>rfl
 pyHash:=λo h=>by
  rcases d5 o with⟨i,t,rfl,rfl⟩|⟨x,t,rfl,rfl⟩
  .exact wpAny_pyHash_int h
  .exact wpAny_pyHash_str h
 eqBool:=λq o h=>by
  rcases d5 q with⟨i,t,rfl,rfl⟩|⟨x,t,rfl,rfl⟩
  .rcases d5 o with⟨j,u,rfl,rfl⟩|⟨y,u,rfl,rfl⟩
   .rw[Rc]at h;exact wpAny_eqBool_int h
   .rw[Rf]at h;exact SeqAt.EqAt.int_str i t y u _ _ _ _ h
  .rcases d5 o with⟨j,u,rfl,rfl⟩|⟨y,u,rfl,rfl⟩
   .rw[Rh]at h;exact SeqAt.EqAt.str_int x t j u _ _ _ _ h
   .rw[Re]at h;exact wpAny_eqBool_str h
 «strs»:=λk x t v h=>by
  rcases d5 h with⟨i,u,rfl,e⟩|⟨y,u,rfl,e⟩
  .exact nomatch e
  .injection e with M _;subst M;cases v<;>rfl
def yP a w(i)t:(cO a w).is (.inl i) (.int i t)=true:=(by simp[vj,Value.isInt]:vj (.inl i) (.int i t)=true)
def yQ a w(x)t:(cO a w).is (.inr x) (.str x t)=true:=(by simp[vj,Value.isStrOf]:vj (.inr x) (.str x t)=true)
set_option genInjectivity true in
inductive V where
 |non|bl (b:Bool)|int (i:Int)|str (x:Str)|byt (b:Array UInt8)|flt (b:UInt64)|ref (a:Addr)|ty (n:String)
def aI:V->Value->Prop
 |.non,u=>u=Value.none
 |.bl b,u=>u=Value.bool b
 |.int i,u=>∃t,u=Value.int i t
 |.str x,u=>∃t,u=Value.str x t
 |.byt b,u=>∃t,u=Value.bytes b t
 |.flt b,u=>∃t,u=Value.float b t
 |.ref a,u=>u=Value.ref a
 |.ty n,u=>u=Value.type n
abbrev bd:List V->LU->Prop:=Paired aI
def bd.length (r:bd d e):d.length=e.length:=Paired.length r
theorem bd.get:∀ {a:List V}{b:LU}{i:Nat}{x:V},bd a b->a[i]? = some x->∃u,b[i]? = some u/\aI x u
 |_,_,_,_,.nil,e=>by simp at e
 |_,_,0,_,.cons r _,e=>by simp_all
 |_,_,i+1,x,.cons _ t,e=>by
  obtain⟨u,c,k⟩:=bd.get t (by simpa using e);simp_all
theorem bd.set (r:aI x u):∀ {a:List V}{b:LU}i,bd a b->bd (a.set i x) (b.set i u)
 |_,_,_,.nil=>.nil
 |_,_,0,.cons _ t=>.cons r t
 |_,_,i+1,.cons q t=>.cons q (bd.set r i t)
theorem bd.append {a b:List V}{c k:LU}(h:bd a c)(s:bd b k):bd (a++b) (c++k):=h.rec s λr _ i=>.cons r i
theorem bd.take:∀ {a:List V}{b:LU}n,bd a b->bd (a.take n) (b.take n)
 |_,_,0,_=>.nil
 |_,_,_+1,.nil=>.nil
 |_,_,n+1,.cons r t=>.cons r (bd.take n t)
theorem bd.drop:∀ {a:List V}{b:LU}n,bd a b->bd (a.drop n) (b.drop n)
 |_,_,0,r=>r
 |_,_,_+1,.nil=>.nil
 |_,_,n+1,.cons _ t=>bd.drop n t
def mi:Option V->Option Value->Prop
 |some v,some u=>aI v u
 |none,none=>True
 |_,_=>False
def KV {a:Type}:List (a×V)->List (a×Value)->Prop:=Paired λ(p:a×V) (q:a×Value)=>p.1=q.1/\aI p.2 q.2
noncomputable def kV:dH->V
 |.inl i=>.int i
 |.inr x=>.str x
set_option genInjectivity true in
inductive HO where
  |lst (xs:List V)
  |tup (xs:List V)
  |dK (aB:List (dH×V)) (ob:Obj)|dT (aB:List (List dH×V))
  |set (S:Int->Bool) (n:Nat)
  |ins (C dx:Addr) (fs:List (Str×V))
  |own (x:Addr)
  |xd (fs:List (Str×V))
  |met (f x:Addr)
  |rng (lo hi:Int)
  |frz (o:Obj) (u:HO)
  |tbl (q:Str)
  |ext (φ:Heap->Prop)
abbrev Hp:=Addr->Option HO
noncomputable def upd (H:Hp)(a:Addr)(o:HO):Hp:=λb=>if b=a then some o else H b
def av:upd H a o a=some o:=by unfold upd;rw[if_pos rr]
theorem a8 (h:b≠a):upd H a o b=H b:=by unfold upd;rw[if_neg h]
def nA:upd (upd H a o) a u=upd H a u:=by
 grind[upd]
def aV {H:Hp}{a b:Addr}{o:HO}(h:H a=some o)(c:H b=none):a≠b:=by
 lia
section
variable (P:Program) (w:World)
def bA (H:Hp)(h:Heap)(a:Addr):HO->Prop
 |.lst k=>k.length<=sizeLine/\∃(b:LU)(n:Nat),bd k b/\h.get? a=some { cls:=.type "list",data:=.seq b.toArray n }
 |.tup k=>k.length<=sizeLine/\∃b:LU,bd k b/\IsTup h a b.toArray
 |.dK z i=>h.get? a=some i/\z.length<=sizeLine/\(a == sysModules)=false/\∃D,KV z D/\h.DictOf (cO P w) a D
 |.dT z=>z.length<=sizeLine/\(a == sysModules)=false/\∃k:List (List dH×Addr×Value),
   Paired (λ(p:List dH×V) (q:List dH×Addr×Value)=>p.1=q.1/\H q.2.1=some (.tup (p.1.map kV))/\aI p.2 q.2.2) z k /\
   ∃o Z U,h.get? a=some o/\o.ExactDict/\o.data=.dict Z U/\Z.toList=k.map (entryOfKey (tupleKind (cO P w)))/\(k.map (·.1)).Nodup
 |.set S n=>h.SetOf (intKind P w) a S n
 |.ins C K F=>H K=some (.own a)/\F.length<=1000/\K≠a/\h.get? a=some (PySem.W.instObj C K) /\
   ∃r,h.Ns1 K r/\(∀f,mi (F.lookup f) (r f))/\PySem.Within r (F.map (·.1))
 |.own _=>∃o,h.get? a=some o
 |.xd F=>∃r,h.Ns1 a r/\∀f,mi (F.lookup f) (r f)
 |.rng j l=>∃t u v,h.get? a=some { cls:=.type "range",data:=.fields #[.int j t,.int l u,.int 1 v] }
 |.frz o u=>h.get? a=some o/\bA H h a u
 |.tbl q=>∃R:AV,h.get? a=some { cls:=.none,data:=.fields R }/\TriplesOk R.toList/\∀M O,codeAmong M R.toList=some O->∃(c:Addr)(d:Obj)(u:HO)(D:AV)(t:Tok),O=.ref c/\H c=some (.frz d u)/\d.data=.fields D/\D[1]? = some (.str q t)
 |.met f x=>h.get? a=some (PySem.W.methodObj (.ref f) (.ref x))
 |.ext X=>X h/\(∃o,h.get? a=some o)/\∀e g:Heap,X e->(∀o,e.get? a=some o->g.get? a=some o)->X g
def ml (H:Hp)(h:Heap):Prop:=∀a o,H a=some o->bA P w H h a o
end
section
variable {P:Program}{w:World}{H H':Hp}{h h':Heap}{a:Addr}{o:HO}
def bA.lt (x:bA P w H h a o):a<h.objs.size:=by
 cases o with
 |lst b=>obtain⟨v,v,v,v,e⟩:=x;exact vX e
 |tup b=>obtain⟨v,v,v,p⟩:=x;exact p.lt
 |dK c k=>exact vX (And.left x)
 |dT c=>obtain⟨v,v,v,v,o,v,v,e,v⟩:=x;exact vX e
 |set S n=>obtain⟨o,v,v,v,e,v⟩:=x;exact vX e
 |ins C z r=>obtain⟨v,v,v,e,v⟩:=x;exact vX e
 |own y=>obtain⟨v,e⟩:=x;exact vX e
 |xd r=>obtain⟨v,⟨v,v,v,e,v⟩,v⟩:=x;exact vX e
 |rng D F=>obtain⟨v,v,v,e⟩:=x;exact vX e
 |frz k u=>obtain⟨e,v⟩:=x;exact vX e
 |tbl q=>obtain⟨v,e,v⟩:=x;exact vX e
 |met f y=>exact vX (show h.get? a=some _ from x)
 |ext K=>obtain⟨v,⟨v,e⟩,v⟩:=x;exact vX e
theorem Paired.mapP {c U:Type}{F G:c->U->Prop}{M:List c}{O:List U}(h:Paired F M O)(f:∀a b,F a b->G a b):Paired G M O:=h.rec .nil λr _ i=>.cons (f _ _ r) i
def bA.stay (x:bA P w H h a o)(k:∀b u,(b=a\/H b=some (.own a))->h.get? b=some u->h'.get? b=some u)
  (U:∀b,H b=some (.own a)->H' b=some (.own a)) (i:∀b R,H b=some (.tup R)->H' b=some (.tup R)) (E:∀b o u,H b=some (.frz o u)->H' b=some (.frz o u)):bA P w H' h' a o:=by
 induction o with
 |lst R=>obtain⟨z,K,n,r,e⟩:=x;exact⟨z,K,n,r,k _ _ (.inl rr) e⟩
 |tup R=>obtain⟨z,K,r,D,e,c⟩:=x;exact⟨z,K,r,D,k _ _ (.inl rr) e,c⟩
 |dK G j=>obtain⟨g,z,y,V,r,D,F,M,e,c⟩:=x;exact⟨k _ _ (.inl rr) g,z,y,V,r,D,F,M,k _ _ (.inl rr) e,c⟩
 |dT G=>
  obtain⟨z,y,R,r,D,F,M,e,c⟩:=x;exact⟨z,y,R,Paired.mapP r λp q z=>⟨z.1,i _ _ z.2.1,z.2.2⟩,D,F,M,k _ _ (.inl rr) e,c⟩
 |set S n=>obtain⟨D,F,M,t,e,c⟩:=x;exact⟨D,F,M,t,k _ _ (.inl rr) e,c⟩
 |ins C Y I=>
  obtain⟨d,z,J,e,W,⟨X,F,M,L,c⟩,r⟩:=x;exact⟨U _ d,z,J,k _ _ (.inl rr) e,W,⟨X,F,M,k _ _ (.inr d) L,c⟩,r⟩
 |own y=>obtain⟨D,e⟩:=x;exact⟨D,k _ _ (.inl rr) e⟩
 |xd I=>obtain⟨W,⟨X,F,M,e,c⟩,r⟩:=x;exact⟨W,⟨X,F,M,k _ _ (.inl rr) e,c⟩,r⟩
 |rng lo hi=>obtain⟨t,u,v,e⟩:=x;exact⟨t,u,v,k _ _ (.inl rr) e⟩
 |frz D u l=>obtain⟨e,q⟩:=x;exact⟨k _ _ (.inl rr) e,l q⟩
 |tbl q=>obtain⟨N,e,t,c⟩:=x;exact⟨N,k a _ (.inl rr) e,t,λO m z=>let ⟨d,Q,u,V,T,s,A,B⟩:=c O m z;⟨d,Q,u,V,T,s,E _ _ _ A,B⟩⟩
 |met f y=>
  have e:=x;exact k a _ (.inl rr) e
 |ext φ=>obtain⟨p,⟨o,e⟩,Z⟩:=x;exact⟨Z _ _ p λo q=>k _ _ (.inl rr) q,⟨o,k _ _ (.inl rr) e⟩,Z⟩
def ml.lt (x:ml P w H h)(e:H a=some o):a<h.objs.size:=(x a o e).lt
def ml.fresh (x:ml P w H h)(e:h.objs.size<=a):H a=none:=by
 cases q:H a with
 |none=>rfl
 |some u=>exact absurd (vQ (x.lt q) e) (Nat.lt_irrefl _)
def ml.kept (x:ml P w H h)(k:∀b u,h.get? b=some u->h'.get? b=some u):ml P w H h':=λa o e=>
 (x a o e).stay (λb u z=>k b u) (λz q=>q) (λz z q=>q) λz z z q=>q
def ml.laid (x:ml P w H h)(k:∀b u,h.get? b=some u->h'.get? b=some u)(z:h.objs.size<=a)(D:bA P w (upd H a o) h' a o):ml P w (upd H a o) h':=λb u e=>by
 have r:=x.fresh z;by_cases F:b=a
 .simp_all[av]
 .rw[a8 F]at e;exact(x b u e).stay (λc v y q=>k c v q) (λc q=>by rw[a8 (aV q r)];exact q) (λc K q=>by rw[a8 (aV q r)];exact q) λc o K q=>by rw[a8 (aV q r)];exact q
end
def Rd (H:Hp)(a:Addr)(u:HO):Prop:=H a=some u\/∃o,H a=some (.frz o u)
def Rd.ok (r:Rd H a u)(x:ml P w H h):bA P w H h a u:=by
 rcases r with r|⟨o,r⟩
 .exact x a u r
 .obtain⟨_,q⟩:=x a _ r;exact q
def Vb:Option HO->Prop
 |some (.lst _)=>True
 |some (.dK _ _)=>True
 |some (.dT _)=>True
 |some (.set _ _)=>True
 |some (.ins _ _ _)=>True
 |some (.ext _)=>True
 |_=>False
section
variable {P:Program}{w:World}{H:Hp}{h h':Heap}{x e:Addr}{o':HO}
def ml.write (F:ml P w H h)(M:Vb (H x))(V:e=x\/H e=some (.own x))(k:∀b u,b≠e->h.get? b=some u->h'.get? b=some u)(a:∃u,h'.get? e=some u)
  (K:bA P w (upd H x o') h' x o'):ml P w (upd H x o') h':=λb u q=>by
 have O:∀c y,H c=some (.own y)->c≠x:=λc y r z=>by subst z;rw[r]at M;exact M
 by_cases R:b=x
 .simp_all[av]
 .rw[a8 R]at q;by_cases d:b=e
  .have f:H b=some (.own x):=by
    simp_all
   rw[q]at f;cases f;obtain⟨v,S⟩:=a;exact⟨v,by rw[d];exact S⟩
  .refine(F b u q).stay (λc v W r=>k c v ?_ r) (λc r=>by rw[a8 (O c b r)];exact r) (λc D r=>by rw[a8 ((λc D r z=>by subst z;rw[r]at M;exact M) c D r)];exact r) λc o D r=>by rw[a8 (λz=>by subst z;rw[r]at M;exact M)];exact r
   grind
end
structure Un (fs ex:List Addr)(H H':Hp)(h h':Heap):Prop where
 keep:∀b o,h.get? b=some o->H b=none->b∉fs->b∉ex->h'.get? b=some o
 slot:∀b o,h.get? b=some o->H b=none->b∈fs->b∉ex->∃sl,h'.get? b=some { o with slots:=sl }
 free:∀b o,h.get? b=some o->H b=none->b∉ex->H' b=none
 there:∀b o,h.get? b=some o->b∉ex->∃o',h'.get? b=some o'
 tups:∀b xs,H b=some (.tup xs)->H' b=some (.tup xs)
 frzs:∀b o u,H b=some (.frz o u)->H' b=some (.frz o u)
 tbls:∀b q,H b=some (.tbl q)->H' b=some (.tbl q)
section
variable {fs fs' ex ex':List Addr}{H H1 H2:Hp}{h h1 h2 h':Heap}{a x e:Addr}{o:HO}
def Un.any (u:Un fs ex H H1 h h1)(q:h.get? b=some ob)(n:H b=none)(hx:b∉ex):∃k,h1.get? b=some { ob with slots:=k }:=by
 by_cases c:b∈fs
 .exact u.slot b ob q n c hx
 .exact⟨ob.slots,u.keep b ob q n c hx⟩
def Un.trans (a:Un fs ex H H1 h h1)(b:Un fs ex H1 H2 h1 h2):Un fs ex H H2 h h2 where
 keep:=λc k q n r hx=>b.keep c k (a.keep c k q n r hx) (a.free c k q n hx) r hx
 slot:=λc k q n r hx=>by
  obtain⟨K,M⟩:=a.slot c k q n r hx;obtain⟨O,F⟩:=b.slot c _ M (a.free c k q n hx) r hx;exact⟨O,F⟩
 free:=λc k q n hx=>by
  obtain⟨z,M⟩:=a.there c k q hx;exact b.free c z M (a.free c k q n hx) hx
 there:=λc k q hx=>by
  obtain⟨z,M⟩:=a.there c k q hx;exact b.there c z M hx
 tups:=λc w q=>b.tups c w (a.tups c w q)
 frzs:=λc k w q=>b.frzs c k w (a.frzs c k w q)
 tbls:=λc D q=>b.tbls c D (a.tbls c D q)
def Un.kept (k:∀b u,h.get? b=some u->h'.get? b=some u):Un fs ex H H h h':=
 ⟨λb c q z z z=>k b c q,λb c q z z z=>⟨c.slots,k b c q⟩,λz z z n z=>n,λb c q z=>⟨c,k b c q⟩,λz z q=>q,λz z z q=>q,λz z q=>q⟩
def Un.refl:Un fs ex H H h h:=Un.kept λz z q=>q
def Un.laid (k:∀b u,h.get? b=some u->h'.get? b=some u)(r:h.objs.size<=a)(c:H a=none):Un fs ex H (upd H a o) h h' where
 keep:=λb u q y y y=>k b u q
 slot:=λb u q y y y=>⟨u.slots,k b u q⟩
 free:=λb u q n y=>by rw[a8 (vS (vQ (vX q) r))];exact n
 there:=λb u q y=>⟨u,k b u q⟩
 tups:=λb w q=>by rw[a8 (aV q c)];exact q
 frzs:=λb u w q=>by rw[a8 (aV q c)];exact q
 tbls:=λb z q=>by rw[a8 (aV q c)];exact q
def Un.write (M:Vb (H x))(D:e=x\/H e=some (.own x))(k:∀b u,b≠e->h.get? b=some u->h'.get? b=some u)(O:∃u,h'.get? e=some u):Un fs ex H (upd H x o) h h':=by
 have hx:∀b,H b=none->b≠x:=λb n z=>by subst z;rw[n]at M;exact M
 have r:∀b,H b=none->b≠e:=λb n z=>by
  simp_all
 have c:∀b u,H b=some u->¬Vb (some u)->b≠x:=λb u q F z=>by simp_all
 refine⟨λb u q n y y=>k b u (r b n) q,λb u q n y y=>⟨u.slots,k b u (r b n) q⟩,λb u q n y=>by rw[a8 (hx b n)];exact n,λb u q y=>?_,
  λb w q=>by rw[a8 (c b _ q λz=>z)];exact q,λb u w q=>by rw[a8 (c b _ q λz=>z)];exact q,λb K q=>by rw[a8 (c b _ q λz=>z)];exact q⟩
 grind
end
noncomputable def trk (h:Heap)(H:Hp):List Addr:=(List.range h.objs.size).filter λa=>(H a).isSome
def yR (h:Heap)(H:Hp):Heap:=PySem.W.hideAll h (trk h H)
theorem rN (e:h.get? b=some o)(n:H b=none):(yR h H).get? b=some o:=
 PySem.W.hideAll_get _ e λa=>by
  have q:=(vN a).2;simp_all
noncomputable def MN (g h:Heap)(L:Addr):AO:=(List.range h.objs.size).filterMap λa=>if a=L\/(g.get? a).isSome=true then none else (h.get? a).map λo=>(a,o)
def aj (g h:Heap)(L d:Addr):AO:=(MN g h L).filter λp=>decide (p.1≠d)
structure Mod (K:Frag)(mg:Str->Option Value)(base:Heap):Prop where
 kin:K.In base
 glob:base.Ns mainGlobals mg
 blt:∃mb,base.Ns builtinsNs mb/\∀x:Str,x ≠ "__name__"->mb x=bootBuiltins x
 nolimit:base.NoLimit
 bmain:∃bm ob,mg "__builtins__" = some (.ref bm)/\bm≠builtinsNs/\base.get? bm=some ob/\ob.cls=.type "module"/\ob.dict=some builtinsNs/\ob.data=.plain
structure Cx where
 prog:Program
 w:World
 K:Frag
 mg:Str->Option Value
 base:Heap
 A:Around
 N:List Str
 s₀:Shared
 H₀:Hp
 env:Env
 outer:List Env
 stack:List Env
 ex:List Addr
 fn:Str->Bool
 calm:Bool
 pn:List (Addr×Obj)
 xe:Value->Shared->Prop
def uC (l:List Env):List Addr:=l.filterMap (·.frame)
abbrev Cx.fs (X:Cx):List Addr:=uC X.outer
def M6 (a:Scope)(x:Str):Prop:=a.names.lookup x=some .local\/a.names.lookup x=some .cell\/a.names.lookup x=some .free
def M7 (a:Scope)(x:Str):Prop:=a.names.lookup x=some .local\/a.names.lookup x=some .cell
def aag (a:Env)(h:Heap)(m:SV)(x:Str)(u:Value):Prop:=
 (a.kindOf x=some .local/\m x=some u)\/((a.kindOf x=some .cell\/a.kindOf x=some .free)/\∃c,a.cells.lookup x=some c/\h.IsCell c (some u))
abbrev wq {a:Type}(X:Cx):Sem a->(a->Shared->Prop)->(Value->Shared->Prop)->Shared->Prop:=wpAny (model X.prog X.w) X.A
structure Cx.Ok (X:Cx):Prop where
 mod:Mod X.K X.mg X.base
 kind:X.env.scope.kind=.function
 glob:X.env.globals=mainGlobals
 blt:X.env.builtins=builtinsNs
 above:X.s₀.z<=X.env.locals
 inj:∀x y c,X.env.cells.lookup x=some c->X.env.cells.lookup y=some c->x=y
 has:∀x,(X.env.kindOf x=some .cell\/X.env.kindOf x=some .free)->∃c,X.env.cells.lookup x=some c
 cab:∀x c,X.fn x=true->X.env.cells.lookup x=some c->X.s₀.z<=c
 hd:X.calm=true->X.A.handled=none
 frames:X.A.frames=some X.stack
 stk:X.stack=X.outer\/(X.stack=X.env::X.outer/\X.env.frame=some X.env.locals)
 exf:∀b∈X.ex,b≠X.env.locals/\∀x c,X.env.cells.lookup x=some c->c≠b
 bs:∀b o,X.base.get? b=some o->X.s₀.heap.get? b=some o/\X.H₀ b=none
 bsz:X.base.objs.size<=X.s₀.z
 noex:∀b o,X.base.get? b=some o->b∉X.ex
 exfs:∀b∈X.ex,b∉X.fs
 funs:X.s₀.heap.FunFrames X.base X.outer
 frf:∀b∈X.fs,X.H₀ b=none
structure Inv (X:Cx)(ag:List (Addr×Obj))(σ:List (Option V))(H:Hp)(s:Shared):Prop where
 ok:X.Ok
 os:s.os=X.s₀.os
 bare:AllBare s.gens
 base:Un X.fs X.ex X.H₀ H X.s₀.heap s.heap
 loc:∃m,s.heap.Ns X.env.locals m/\∀(i:Nat)(x:Str)(v:V),X.N[i]? = some x->σ[i]? = some (some v)->M6 X.env.scope x->∃u,aI v u/\aag X.env s.heap m x u
 cell:∀x c,X.env.cells.lookup x=some c->∃v,s.heap.IsCell c v
 free:H X.env.locals=none
 freeC:∀x c,X.env.cells.lookup x=some c->H c=none
 pin:∀p∈X.pn++ag,s.heap.get? p.1=some p.2/\H p.1=none/\p.1≠X.env.locals/\p.1∉X.fs/\∀v,p.2.data≠.cell v
 hok:ml X.prog X.w H s.heap
 len:σ.length=X.N.length
section
variable {X:Cx}{ag:AO}{σ:List (Option V)}{H H':Hp}{s:Shared}{h':Heap}
def Inv.bs (I:Inv X ag σ H s):∀b o,X.base.get? b=some o->s.heap.get? b=some o/\H b=none:=λb o e=>
 ⟨I.base.keep b o (I.ok.bs b o e).1 (I.ok.bs b o e).2 (λc=>by
  have:=(I.ok.funs.mem c).1;simp_all) (I.ok.noex b o e),I.base.free b o (I.ok.bs b o e).1 (I.ok.bs b o e).2 (I.ok.noex b o e)⟩
def Inv.bk (I:Inv X ag σ H s):∀b o,X.base.get? b=some o->s.heap.get? b=some o:=λb o e=>(I.bs b o e).1
def Inv.mod (I:Inv X ag σ H s):Mod X.K X.mg X.base:=I.ok.mod
def Inv.kIn (I:Inv X ag σ H s):X.K.In s.heap:=I.ok.mod.kin.keeps I.bk
def Inv.nolimit (I:Inv X ag σ H s):s.heap.NoLimit:=I.ok.mod.nolimit.keeps I.bk
def Inv.lt (I:Inv X ag σ H s):X.env.locals<s.z:=let ⟨_,a,_⟩:=I.loc;a.lt
def Inv.sz (I:Inv X ag σ H s):X.s₀.z<=s.z:=vR I.ok.above (le_of_lt I.lt)
def Inv.nofs (I:Inv X ag σ H s)(h:s.z<=a):a∉X.fs:=λb=>by
 obtain⟨y,o,M,y⟩:=I.ok.funs.mem b;exact absurd (vQ (vX M) (vR I.sz h)) (Nat.lt_irrefl _)
def Inv.cne (I:Inv X ag σ H s):∀x c,X.env.cells.lookup x=some c->c≠X.env.locals:=λx c e z=>by
 obtain⟨v,o,U,b⟩:=I.cell x c e;obtain⟨m,⟨k,q,a,M,O,y⟩,y⟩:=I.loc;simp_all
def Inv.funs (I:Inv X ag σ H s):s.heap.FunFrames X.base X.outer:=by
 have all:∀(l:List _),(∀b∈uC l,b∈X.fs)->X.s₀.heap.FunFrames X.base l->s.heap.FunFrames X.base l:=by
  intro l;induction l with
  |nil=>intro y y;trivial
  |cons q r O=>
   intro c w;obtain⟨D,⟨L,o,F,K,U,P⟩,a⟩:=w;have M:=c L (by simp_all[uC]);obtain⟨R,e⟩:=I.base.slot L o U (I.ok.frf L M) M λz=>I.ok.exfs L z M;exact⟨D,⟨L,_,F,K,e,P⟩,O (λb k=>c b (by simp_all[uC])) a⟩
 exact all _ (λy k=>k) I.ok.funs
def Inv.stack (I:Inv X ag σ H s):s.heap.FunFrames X.base X.stack:=by
 rcases I.ok.stk with e|⟨e,a⟩
 .rw[e];exact I.funs
 .rw[e];obtain⟨m,b,z⟩:=I.loc;exact .cons (by rw[I.ok.kind];decide) a b (Heap.get?_none_of_le (vR I.ok.bsz I.ok.above)) I.funs
def Inv.stkSub (I:Inv X ag σ H s):∀b∈uC X.stack,b∈X.env.locals::X.fs:=λb a=>by
 rcases I.ok.stk with e|⟨e,c⟩
 .simp_all
 simp_all[uC]
def Inv.stkFree (I:Inv X ag σ H s):∀b∈uC X.stack,H b=none:=λb a=>by
 rcases vP (I.stkSub b a)with e|a
 .rw[e];exact I.free
 .obtain⟨_,o,M,_⟩:=I.ok.funs.mem a;exact I.base.free b o M (I.ok.frf b a) λz=>I.ok.exfs b z a
def Inv.step {g':Array GenState}{t':Nat}{d':Drawn}{ch:List Addr}(I:Inv X ag σ H s)
  (M:∀b∈ch,(b∈X.ex\/X.s₀.z<=b)/\b≠X.env.locals/\(∀x c,X.env.cells.lookup x=some c->c≠b)/\∀p∈X.pn++ag,p.1≠b)
  (F:∀b o,b≠X.env.locals->b∉X.fs->b∉ch->s.heap.get? b=some o->H b=none->h'.get? b=some o)
  (K:∀b o,b≠X.env.locals->b∈X.fs->b∉ch->s.heap.get? b=some o->H b=none->∃C,h'.get? b=some { o with slots:=C }) (D:∀b o,b∉ch->s.heap.get? b=some o->H b=none->H' b=none)
  (there:∀b o,b∉ch->s.heap.get? b=some o->∃S,h'.get? b=some S)
  (W:∀b P,H b=some (.tup P)->H' b=some (.tup P)) (Z:∀b o u,H b=some (.frz o u)->H' b=some (.frz o u)) (B:∀b q,H b=some (.tbl q)->H' b=some (.tbl q))
  (T:∀m,s.heap.Ns X.env.locals m->h'.Ns X.env.locals m) (E:ml X.prog X.w H' h') (y:AllBare g'):
  Inv X ag σ H' { s with heap:=h',gens:=g',drawn:=d',toks:=t' }:=by
 have g:∀b o,X.s₀.heap.get? b=some o->b≠X.env.locals:=λb o e=>vS (vQ (vX e) I.ok.above);have h:∀b o,X.s₀.heap.get? b=some o->b∉X.ex->b∉ch:=λb o e hx R=>by
  rcases (M b R).1 with z|z
  .exact hx z
  .exact absurd (vQ (vX e) z) (Nat.lt_irrefl _)
 have O:∀x c,X.env.cells.lookup x=some c->∀v,s.heap.IsCell c v->h'.IsCell c v:=λx c e v ⟨o,f,G⟩=>by
  have U:c∉ch:=λz=>(M c z).2.2.1 x c e rr;by_cases L:c∈X.fs
  .obtain⟨C,q⟩:=K c o (I.cne x c e) L U f (I.freeC x c e);exact⟨_,q,G⟩
  .exact⟨o,F c o (I.cne x c e) L U f (I.freeC x c e),G⟩
 refine⟨I.ok,I.os,y,⟨λb o e n R hx=>?_,λb o e n R hx=>?_,λb o e n hx=>?_,λb o e hx=>?_,λb P e=>W b P (I.base.tups b P e),λb o P e=>Z b o P (I.base.frzs b o P e),λb Y e=>?_⟩,?_,λx c e=>?_,?_,λx c e=>?_,λp N=>?_,E,I.len⟩
 .exact F b o (g b o e) R (h b o e hx) (I.base.keep b o e n R hx) (I.base.free b o e n hx)
 .obtain⟨C,a⟩:=I.base.slot b o e n R hx;obtain⟨j,J⟩:=K b _ (g b o e) R (h b o e hx) a (I.base.free b o e n hx);exact⟨j,J⟩
 .obtain⟨S,a⟩:=I.base.there b o e hx;exact D b S (h b o e hx) a (I.base.free b o e n hx)
 .obtain⟨S,a⟩:=I.base.there b o e hx;exact there b S (h b o e hx) a
 .exact B b _ (I.base.tbls b Y e)
 .obtain⟨m,hn,hl⟩:=I.loc;refine⟨m,T m hn,λi x v a J A=>?_⟩;obtain⟨u,r,l⟩:=hl i x v a J A;refine⟨u,r,?_⟩;rcases l with l|⟨k,c,e,z⟩
  .exact .inl l
  .exact .inr ⟨k,c,e,O x c e _ z⟩
 .obtain⟨v,z⟩:=I.cell x c e;exact⟨v,O x c e v z⟩
 .obtain⟨m,⟨o,_,_,f,_⟩,_⟩:=I.loc;exact D _ o (λz=>(M _ z).2.1 rr) f I.free
 .obtain⟨v,o,f,G⟩:=I.cell x c e;exact D c o (λz=>(M c z).2.2.1 x c e rr) f (I.freeC x c e)
 .obtain⟨e,n,Q,t,d⟩:=I.pin p N;have U:p.1∉ch:=λz=>(M p.1 z).2.2.2 p N rr;exact⟨F p.1 p.2 Q t U e n,D p.1 p.2 U e n,Q,t,d⟩
def Inv.un {t':Nat}(I:Inv X ag σ H s)(u:Un X.fs [] H H' s.heap h')(k:ml X.prog X.w H' h'):Inv X ag σ H' { s with heap:=h',toks:=t' }:=by
 obtain⟨m,⟨o,F,f,a,r⟩,y⟩:=id I.loc;obtain⟨K,c⟩:=u.any a I.free H9;exact I.step (ch:=[]) (λy z=>nomatch z) (λb o y q y e n=>u.keep b o e n q H9) (λb o y q y e n=>u.slot b o e n q H9) (λb o y e n=>u.free b o e n A_) (λb o y e=>u.there b o e A_) u.tups u.frzs u.tbls (λg D=>by
  obtain⟨P,O,U,M,d⟩:=D;rw[a]at M;cases M;exact⟨_,O,U,c,d⟩) k I.bare
def Inv.call{K:Nat}{P:Drawn}{F:List Addr}(I:Inv X ag σ H s)(u:Un (uC X.stack) F H H' s.heap h')(q:ml X.prog X.w H' h')(g:AllBare D)
  (M:∀b∈F,(b∈X.ex\/X.s₀.z<=b)/\b≠X.env.locals/\(∀x c,X.env.cells.lookup x=some c->c≠b)/\∀p∈X.pn++ag,p.1≠b):
  Inv X ag σ H' { s with heap:=h',gens:=D,drawn:=P,toks:=K }:=by
 obtain⟨m,⟨o,W,i,f,r⟩,y⟩:=id I.loc;obtain⟨Z,U⟩:=u.any f I.free λz=>(M _ z).2.1 rr;exact I.step M (λb o U R k e n=>u.keep b o e n (λz=>(vP (I.stkSub b z)).elim U R) k) (λb o y y k e n=>u.any e n k) (λb o k e n=>u.free b o e n k) (λb o k e=>u.there b o e k) u.tups u.frzs u.tbls (λj S=>by
  obtain⟨l,a,d,O,h⟩:=S;rw[f]at O;cases O;exact⟨_,a,d,U,h⟩) q g
def Inv.turned(I:Inv X ag σ H s)(k:∀b o,b≠a->s.heap.get? b=some o->h'.get? b=some o)(W:H a=none)(M:a≠X.env.locals)
  (D:a∈X.ex\/X.s₀.z<=a) (F:∀x c,X.env.cells.lookup x=some c->c≠a) (K:∀p∈X.pn++ag,p.1≠a):Inv X ag σ H { s with heap:=h',toks:=t' }:=by
 refine I.step (ch:=[a]) (λb P=>?_) (λb o y y w e y=>k b o (λz=>w (by simp[z])) e) (λb o y y w e y=>⟨o.slots,k b o (λz=>w (by simp[z])) e⟩) (λy y y y n=>n)
  (λb o w e=>⟨o,k b o (λz=>w (by simp[z])) e⟩) (λy y e=>e) (λy y y e=>e) (λy y e=>e) (λm R=>?_) (λb u e=>?_) I.bare
 .have e:=by simpa using P
  subst e;exact⟨D,M,F,K⟩
 .obtain⟨o,S,O,U,r⟩:=R;exact⟨o,S,O,k _ o (Ne.symm M) U,r⟩
 .refine(I.hok b u e).stay (λc v w q=>k c v ?_ q) (λy q=>q) (λy y q=>q) λy y y q=>q;lia
def Inv.tok (I:Inv X ag σ H s)t:Inv X ag σ H { s with toks:=t }:=I.un Un.refl I.hok
def Inv.kept (I:Inv X ag σ H s)(k:∀b u,s.heap.get? b=some u->h'.get? b=some u):Inv X ag σ H { s with heap:=h',toks:=t' }:=I.un (Un.kept k) (I.hok.kept k)
def Inv.laid (I:Inv X ag σ H s)(k:∀b u,s.heap.get? b=some u->h'.get? b=some u)(c:s.z<=a)(q:bA X.prog X.w (upd H a o) h' a o):
  Inv X ag σ (upd H a o) { s with heap:=h',toks:=t' }:=I.un (Un.laid k c (I.hok.fresh c)) (I.hok.laid k c q)
def Inv.write (I:Inv X ag σ H s)(O:Vb (H x))(c:e=x\/H e=some (.own x))(k:∀b u,b≠e->s.heap.get? b=some u->h'.get? b=some u)(M:∃u,h'.get? e=some u)
  (a:bA X.prog X.w (upd H x o) h' x o):Inv X ag σ (upd H x o) { s with heap:=h',toks:=d }:=I.un (Un.write O c k M) (I.hok.write O c k M a)
def Inv.pins_of (I:Inv X ag σ H s)(h:∀p∈M,s.heap.get? p.1=some p.2/\H p.1=none/\p.1≠X.env.locals/\p.1∉X.fs/\∀v,p.2.data≠.cell v):Inv X M σ H s:=
 ⟨I.ok,I.os,I.bare,I.base,I.loc,I.cell,I.free,I.freeC,λp a=>(mem_append.mp a).elim (λz=>I.pin p (mem_append_left _ z)) (h p),I.hok,I.len⟩
def yS {N:LS}(M:N.Nodup){i j:Nat}(a:N[i]? = some x)(b:N[j]? = some x):i=j:=by
 obtain⟨k,O⟩:=vV a;obtain⟨o,c⟩:=vV b;exact(List.getElem_inj M).mp (O.trans c.symm)
def vk {M:Model}{A:Around}{E:QV}{i:Nat}{x:Str}{v:V}{u:Value}{Q:Unit->Shared->Prop}(I:Inv X ag σ H s)(J:X.N.Nodup)(hi:X.N[i]? = some x)(hx:M7 X.env.scope x)(r:aI v u)
  (h:∀s',Inv X ag (σ.set i (some v)) H s'->(∃a,Heap.SameBut a s.heap s'.heap/\(a=X.env.locals\/X.env.cells.lookup x=some a))->Q () s') (hf:X.fn x=true\/X.env.scope.names.lookup x=some .local:=by first|exact .inl rr|exact .inr rr|assumption):wpAny M A (storeName X.env x u) Q E s:=by
 obtain⟨m,hn,hl⟩:=id I.loc;have K:i<σ.length:=by rw[I.len];exact(vV hi).1
 have cne:=I.cne;have O:∀ {a:Addr}{h':Heap},(∃o,s.heap.get? a=some o/\H a=none)->Heap.SameBut a s.heap h'->ml X.prog X.w H h':=λ{a h'} ha hs b ob e=>by
  obtain⟨t,t,P⟩:=ha;refine(I.hok b ob e).stay (λc B hc q=>(hs.2 c ?_).trans q) (λt q=>q) (λt t q=>q) λt t t q=>q;lia
 rcases hx with hk|hk
 .refine wpAny_storeName_local hk hn (λh' R hs=>?_) (by rw[I.ok.kind];rfl);obtain⟨S,t,t,T,t⟩:=id hn;refine h _ ⟨I.ok,I.os,I.bare,⟨λb o e n hb hx=>?_,λb o e n hb hx=>?_,I.base.free,λb o e hx=>?_,I.base.tups,I.base.frzs,I.base.tbls⟩,⟨_,R,λj y C U e2 D=>?_⟩,λy c e=>?_,I.free,I.freeC,λp hp=>?_,O ⟨S,T,I.free⟩ hs,by simpa using I.len⟩ ⟨_,hs,.inl rr⟩
  .exact(hs.2 b (vS (vQ (vX e) I.ok.above))).trans (I.base.keep b o e n hb hx)
  .obtain⟨sl,U⟩:=I.base.slot b o e n hb hx;exact⟨sl,(hs.2 b (vS (vQ (vX e) I.ok.above))).trans U⟩
  .obtain⟨o',U⟩:=I.base.there b o e hx;exact⟨o',(hs.2 b (vS (vQ (vX e) I.ok.above))).trans U⟩
  .by_cases hj:j=i
   .subst hj;rw[hi]at U;cases U;rw[getElem?_set_self K]at e2;cases e2
    exact⟨u,r,.inl ⟨hk,H9⟩⟩
   .rw[vB (Ne.symm hj)]at e2;obtain⟨u',F,q⟩:=hl j y C U e2 D;refine⟨u',F,?_⟩;rcases q with⟨k,e⟩|⟨k,c,e,z⟩
    .refine .inl ⟨k,?_⟩;have:y≠x:=λe=>hj (yS J U (e ▸ hi));simp_all
    .exact .inr ⟨k,c,e,z.sameBut hs (cne y c e)⟩
  .obtain⟨B,z⟩:=I.cell y c e;exact⟨B,z.sameBut hs (cne y c e)⟩
  .obtain⟨e,n,ne,G,d⟩:=I.pin p hp;exact⟨(hs.2 p.1 ne).trans e,n,ne,G,d⟩
 .have f:X.fn x=true:=by
   simp_all<;>lia
  obtain⟨c,hc⟩:=I.ok.has x (.inl hk);obtain⟨B,z⟩:=I.cell x c hc;refine wpAny_storeName_cell I.ok.kind hk hc z (λh' L hs=>?_);obtain⟨oc,W,Y⟩:=id z;refine h { s with heap:=h' } ⟨I.ok,I.os,I.bare,⟨λb o e n hb hx=>?_,λb o e n hb hx=>?_,I.base.free,λb o e hx=>?_,I.base.tups,I.base.frzs,I.base.tbls⟩,⟨m,hn.sameBut hs (Ne.symm (cne x c hc)),λj y C U e2 D=>?_⟩,λy l e=>?_,I.free,I.freeC,λp hp=>?_,O ⟨oc,W,I.freeC x c hc⟩ hs,by simpa using I.len⟩ ⟨c,hs,.inr hc⟩
  .exact(hs.2 b (vS (vQ (vX e) (I.ok.cab x c f hc)))).trans (I.base.keep b o e n hb hx)
  .obtain⟨sl,U⟩:=I.base.slot b o e n hb hx;exact⟨sl,(hs.2 b (vS (vQ (vX e) (I.ok.cab x c f hc)))).trans U⟩
  .obtain⟨o',U⟩:=I.base.there b o e hx;exact⟨o',(hs.2 b (vS (vQ (vX e) (I.ok.cab x c f hc)))).trans U⟩
  .by_cases hj:j=i
   .subst hj;rw[hi]at U;cases U;rw[getElem?_set_self K]at e2;cases e2
    exact⟨u,r,.inr ⟨.inl hk,c,hc,L⟩⟩
   .rw[vB (Ne.symm hj)]at e2;obtain⟨u',F,q⟩:=hl j y C U e2 D;refine⟨u',F,?_⟩;rcases q with q|⟨k,l,e,Z⟩
    .exact .inl q
    .refine .inr ⟨k,l,e,Z.sameBut hs ?_⟩;rintro rfl;exact hj (yS J U (I.ok.inj _ _ _ e hc ▸ hi))
  .by_cases g:l=c
   .subst g;exact⟨_,L⟩
   .obtain⟨w2,z2⟩:=I.cell y l e;exact⟨w2,z2.sameBut hs g⟩
  .obtain⟨e,n,ne,G,d⟩:=I.pin p hp;refine⟨(hs.2 p.1 ?_).trans e,n,ne,G,d⟩;grind
def yT{A:Around}{E:QV}{i:Nat}{x:Str}{v:V}{u:Value}{Q:Unit->Shared->Prop}(I:Inv X ag σ H s)(O:X.N.Nodup)(b:X.N[i]? = some x)(hx:M7 X.env.scope x)(r:aI v u)
  (h:∀a,Inv X ag (σ.set i (some v)) H a->Q () a) (c:X.fn x=true\/X.env.scope.names.lookup x=some .local:=by first|exact .inl rr|exact .inr rr|assumption):wpAny M A (storeName X.env x u) Q E s:=
 vk I O b hx r (λa U z=>h a U) c
end
abbrev XK:=Value->Option Addr->Hp->Prop
abbrev St:=List (Option V)
abbrev VK:=V->Hp->Prop
abbrev TE:=St->Hp->VK->Prop
abbrev TT:=St->Hp->(Bool->Hp->Prop)->Prop
abbrev TA:=St->Hp->(List V->Hp->Prop)->Prop
structure Ends where
 nx:St->Hp->Prop
 rt:VK
 bk:St->Hp->Prop:=λ_ _=>False
 ct:St->Hp->Prop:=λ_ _=>False
abbrev TS:=Ends->St->Hp->Prop
def EP (X:Cx)(b:AO)(c:St)(Q:VK)(u:Value)(k:Shared):Prop:=∃v a,Inv X b c a k/\aI v u/\Q v a
def TP (X:Cx)(c:AO)(k:St)(Q:Bool->Hp->Prop)(b:Bool)(o:Shared):Prop:=∃a,Inv X c k a o/\Q b a
def AP (X:Cx)(c:AO)(k:St)(Q:List V->Hp->Prop)(o:LU)(q:Shared):Prop:=∃a b,Inv X c k b q/\bd a o/\Q a b
def SP (X:Cx)(b:AO)(D:Ends)(f:Flow)(c:Shared):Prop:=
 match f with
 |.next=>∃M a,Inv X b M a c/\D.nx M a
 |.brk=>∃M a,Inv X b M a c/\D.bk M a
 |.cont=>∃M a,Inv X b M a c/\D.ct M a
 |.ret u=>∃v M a,Inv X b M a c/\aI v u/\D.rt v a
def PE (X:Cx)(e:Expr)(t:TE):Prop:=
 ∀(b:AO)(s:Shared)(a:St)(H:Hp)(Q:VK),Inv X b a H s->t a H Q->wq X (eval e X.env) (EP X b a Q) X.xe s
def PT (X:Cx)(e:Expr)(t:TT):Prop:=
 ∀(b:AO)(s:Shared)(a:St)(H:Hp)(Q:Bool->Hp->Prop),Inv X b a H s->t a H Q->wq X (isTrue e X.env (eval e X.env)) (TP X b a Q) X.xe s
def PW (X:Cx)(e:Expr)(t:TT):Prop:=
 ∀(M:Sem Value)(b:AO)(s:Shared)(a:St)(H:Hp)(Q:Bool->Hp->Prop),Inv X b a H s->t a H Q->wq X (isTrue e X.env M) (TP X b a Q) X.xe s
def PW.pt (h:PW X e t):PT X e t:=h _
def PA (X:Cx)(c:QD)(t:TA):Prop:=
 ∀(M:Pos)(b:AO)(s:Shared)(a:St)(H:Hp)(Q:List V->Hp->Prop),Inv X b a H s->t a H Q->wq X (spliced (backTo M (starEach c X.env))) (AP X b a Q) X.xe s
def PS (X:Cx)(c:Stmt)(t:TS):Prop:=
 ∀(a:AO)(s:Shared)(b:St)(H:Hp)(D:Ends),Inv X a b H s->t D b H->wq X (exec c X.env) (SP X a D) X.xe s
def vn (X:Cx)(c:List Stmt)(t:TS):Prop:=
 ∀(a:AO)(s:Shared)(b:St)(H:Hp)(D:Ends),Inv X a b H s->t D b H->wq X (execs c X.env) (SP X a D) X.xe s
def bY {b:Type}{t:Sem b}{Q O:b->Shared->Prop}(h:wpAny M A t Q E s)(U:∀a s,Q a s->O a s):wpAny M A t O E s:=wpAny_mono h U λz z x=>x
section
variable {X:Cx}
def Ie (i:Nat):TE:=λa H Q=>∃v,a[i]? = some (some v)/\Q v H
def tC (v:V):TE:=λz H Q=>Q v H
def k8 (U:X.N[i]? = some x)(q:M6 X.env.scope x)(b:bB x:=by decide)(O:mo x:=by decide):PE X (.Name x d) (Ie i):=by
 intro K s w H Q I h;obtain⟨v,e,h⟩:=h;obtain⟨m,z,D⟩:=I.loc;obtain⟨u,r,l⟩:=D i x v U e q;have k:EP X _ w Q u s:=⟨v,H,I,r,h⟩;rcases l with⟨a,F⟩|⟨a,c,o,M⟩
 .exact wpAny_Name (wpAny_loadName_local I.ok.kind a z F k) b
 .rcases a with a|a
  .exact wpAny_Name (wpAny_loadName_cell I.ok.kind a o M k) b
  .exact wpAny_Name (wpAny_loadName_free I.ok.kind a o M k O) b
def Gl (X:Cx)(x:Str):Prop:=X.env.kindOf x=some .globalImplicit
def xy {E:QV}{a:AO}{s:Shared}{b:St}{H:Hp}{x:Str}{u:Value}{M:Pos}{Q:QV}(I:Inv X a b H s)(O:Gl X x)(c:X.mg x=some u)(h:Q u s)
  (k:bB x:=by decide):wq X (eval (.Name x M) X.env) Q E s:=
 Calls.Name_function_global I.ok.kind O (Calls.loadGlobal_global (by rw[I.ok.glob];exact I.mod.glob.keeps I.bk) c h) k
def jb {E:QV}{a:AO}{s:Shared}{b:St}{H:Hp}{x:Str}{u:Value}{M:Pos}{Q:QV}(I:Inv X a b H s)(O:Gl X x)(c:X.mg x=none)(k:bootBuiltins x=some u)(h:Q u s)
  (o:x ≠ "__name__":=by decide) (q:bB x:=by decide):wq X (eval (.Name x M) X.env) Q E s:=by
 obtain⟨z,r,w⟩:=I.mod.blt;exact Calls.Name_function_global I.ok.kind O (Calls.loadGlobal_builtin (by rw[I.ok.glob];exact I.mod.glob.keeps I.bk) c (by rw[I.ok.blt];exact r.keeps I.bk) ((w x o).trans k) h) q
def qW (M:Gl X x)(a:X.mg x=some u)(r:aI v u)(b:bB x:=by decide):PE X (.Name x O) (tC v):=
 λz z z H z I h=>xy I M a ⟨v,H,I,r,h⟩ b
def t2I (b c:TE)(k:Int->Int->Hp->Prop):St->Hp->Prop:=λa H=>b a H λx M=>c a M λy o=>∃i j,x=.int i/\y=.int j/\k i j o
variable {a b:Expr}{ta tb:TE}{pos:Pos}
def PC (X:Cx)(o:CmpOp)(a b:Expr)(t:TE):Prop:=
 ∀(k:AO)(s:Shared)(c:St)(H:Hp)(Q:VK),Inv X k c H s->t c H Q ->
  wq X (eval a X.env) (λv M=>wq X (eval b X.env) (λu O=>wq X (compareOp o v u) (EP X k c Q) X.xe O) X.xe M) X.xe s
def aah (p:Int->Int->Bool)(ta tb:TE):TE:=λc H Q=>t2I ta tb (λi j k=>Q (.bl (p i j)) k) c H
abbrev tLt:TE->TE->TE:=aah λi j=>decide (i<j)
def tB (t:TE):TT:=λk H Q=>t k H λx M=>∃c,x=.bl c/\Q c M
def Ig(h:PC X k a b t)(o:behindInMarks k b=false:=by rfl):PT X (.Compare a [k] [b] pos) (tB t):=by
 intro D s r H Q I w;refine wpAny_isTrue_Compare1 (bY (h _ s r H _ I w) λv F o=>bY o λu K z=>bY z λc f ⟨x,M,O,U,e⟩=>?_) o;obtain⟨d,rfl,q⟩:=e;cases U
 exact wpAny_truthy_bool ⟨M,O,q⟩
def Ro(h:PE X e t)(k:∀M,isTrue e X.env M=(do let v <-M;standAt e.pos;holding [v] (truthy v)):=by intro y;rfl):PT X e (tB t):=by
 intro w s o H Q I r;refine isTrue_plain (bY (h _ s o H _ I r) λv z ⟨x,O,U,c,f⟩=>?_) (k _);obtain⟨d,rfl,q⟩:=f;cases c
 exact wpAny_truthy_bool ⟨O,U,q⟩
variable {tA ZJ:TT}{aj:QD}
def Vd (t u:TT):TT:=λk H Q=>t k H λc M=>if c=true then u k M Q else Q false M
def tOr (t u:TT):TT:=λk H Q=>t k H λc M=>if c=true then Q true M else u k M Q
def MP (k:PT X a tA):PW X (.BoolOp .And [a] pos) tA:=by
 intro q r s o H Q I h;refine isTrue_and (bY (k _ s o H Q I h) λc w e=>?_);grind[isTrue_and_nil]
def Rp (k:PT X a tA):PW X (.BoolOp .Or [a] pos) tA:=by
 intro q r s o H Q I h;refine isTrue_or (bY (k _ s o H Q I h) λc w e=>?_);grind[isTrue_or_nil]
def Rr (o:PT X a tA)(q:PW X (.BoolOp .And (b::aj) pos) ZJ):PW X (.BoolOp .And (a::b::aj) pos) (Vd tA ZJ):=by
 intro r z s k H Q I h;refine isTrue_and (bY (o _ s k H _ I h) λc w ⟨M,O,U⟩=>?_);cases c with
 |true=>exact q r _ w k M Q O U
 |false=>exact⟨M,O,U⟩
def Vf (o:PT X a tA)(q:PW X (.BoolOp .Or (b::aj) pos) ZJ):PW X (.BoolOp .Or (a::b::aj) pos) (tOr tA ZJ):=by
 intro r z s k H Q I h;refine isTrue_or (bY (o _ s k H _ I h) λc w ⟨M,O,U⟩=>?_);cases c with
 |true=>exact⟨M,O,U⟩
 |false=>exact q r _ w k M Q O U
def Vg (ta tb:TE):TE:=λk H Q=>ta k H λx M=>∃c,x=.bl c/\if c=true then tb k M Q else Q (.bl false) M
def aaj (ta tb:TE):TE:=λk H Q=>ta k H λx M=>∃c,x=.bl c/\if c=true then Q (.bl true) M else tb k M Q
def Vh (ta:TE):TE:=λk H Q=>ta k H λx M=>∃c,x=.bl c/\Q (.bl (!c)) M
def Rv (o:PE X a ta)(q:PE X (.BoolOp .And (b::aj) pos) tb):PE X (.BoolOp .And (a::b::aj) pos) (Vg ta tb):=by
 intro w s k H Q I h;refine BoolOp_and (bY (o _ s k H _ I h) λv r ⟨x,O,U,d,M⟩=>?_);obtain⟨c,rfl,M⟩:=M;cases d
 refine wpAny_truthy_bool ?_;cases c with
 |true=>exact q _ r k O Q U M
 |false=>exact⟨.bl _,O,U,rr,M⟩
def Vi (o:PE X a ta)(q:PE X (.BoolOp .Or (b::aj) pos) tb):PE X (.BoolOp .Or (a::b::aj) pos) (aaj ta tb):=by
 intro w s k H Q I h;refine BoolOp_or (bY (o _ s k H _ I h) λv r ⟨x,O,U,d,M⟩=>?_);obtain⟨c,rfl,M⟩:=M;cases d
 refine wpAny_truthy_bool ?_;cases c with
 |false=>exact q _ r k O Q U M
 |true=>exact⟨.bl _,O,U,rr,M⟩
def Rw (k:PE X a ta):PE X (.UnaryOp .Not a pos) (Vh ta):=by
 intro q s o H Q I h;refine UnaryOp_ (bY (k _ s o H _ I h) λv r ⟨x,O,U,d,M⟩=>?_);obtain⟨c,rfl,M⟩:=M;cases d
 exact not_of (wpAny_truthy_bool ⟨.bl _,O,U,rr,M⟩)
end
def fW (K:Frag)(H:Hp)(a:Addr)(c:List V):Prop:=
 Rd H a (.lst c) \/
  ∃(o:Obj)(b:AV)(n:Nat),K.lookup a=some o/\o.cls=.type "list"/\o.dict=none/\o.data=.seq b n/\b.size<=sizeLine/\bd c b.toList
def iH (K:Frag)(H:Hp)(a:Addr)(c:List V):Prop:=
 Rd H a (.tup c) \/
  ∃(o:Obj)(b:AV)(n:Nat),K.lookup a=some o/\o.cls=.type "tuple"/\o.data=.seq b n/\b.size<=sizeLine/\bd c b.toList
noncomputable def aak:Value->Option V
 |.none=>some .non
 |.bool b=>some (.bl b)
 |.int i _=>some (.int i)
 |.str x _=>some (.str x)
 |.bytes b _=>some (.byt b)
 |.float b _=>some (.flt b)
 |.ref a=>some (.ref a)
 |.type n=>some (.ty n)
 |_=>none
def aI.abs (r:aI x u):aak u=some x:=by
 cases x with
 |non=>cases r;rfl
 |bl _=>cases r;rfl
 |int _=>obtain⟨t,rfl⟩:=r;rfl
 |str _=>obtain⟨t,rfl⟩:=r;rfl
 |byt _=>obtain⟨t,rfl⟩:=r;rfl
 |flt _=>obtain⟨t,rfl⟩:=r;rfl
 |ref _=>cases r;rfl
 |ty _=>cases r;rfl
def aI.inj (r:aI x u)(q:aI y u):x=y:=vK (r.abs.symm.trans q.abs)
theorem bd.inj {a b:List V}{c:LU}(h:bd a c)(k:bd b c):a=b:=by
 induction h generalizing b with
 |nil=>cases k;rfl
 |cons r _ i=>cases k with|cons M k=>rw[r.inj M,i k]
section
variable {X:Cx}{ag:AO}{σ:St}{H:Hp}{s:Shared}{a:Addr}{xs ys:List V}
def fW.of {K:Frag}(h:H a=some (.lst xs)):fW K H a xs:=.inl (.inl h)
def iH.of {K:Frag}(h:H a=some (.tup xs)):iH K H a xs:=.inl (.inl h)
def Inv.list (I:Inv X ag σ H s)(h:fW X.K H a xs):∃b:LU,bd xs b/\PlainL s.heap a b.toArray/\xs.length<=sizeLine:=by
 rcases h with h|⟨o,b,n,c,k,q,w,D,r⟩
 .obtain⟨z,b,n,r,e⟩:=h.ok I.hok;exact⟨b,r,⟨_,n,e,rr,rr,rr⟩,z⟩
 .refine⟨b.toList,r,⟨o,n,I.kIn a o c,k,q,by simpa using w⟩,?_⟩;have e:=r.length;simp_all
def Inv.lisE {G:Prop}(I:Inv X ag σ H s)(h:fW X.K H a xs)(k:∀b:LU,bd xs b->PlainL s.heap a b.toArray->xs.length<=sizeLine->G):G:=let⟨i,d,p,z⟩:=I.list h;k i d p z
def Inv.tuple (I:Inv X ag σ H s)(h:iH X.K H a xs):∃b:LU,bd xs b/\IsTup s.heap a b.toArray/\xs.length<=sizeLine:=by
 rcases h with h|⟨o,b,n,c,k,q,w,r⟩
 .obtain⟨z,b,r,p⟩:=h.ok I.hok;exact⟨b,r,p,z⟩
 .refine⟨b.toList,r,⟨o,I.kIn a o c,k,n,by simpa using q⟩,?_⟩;have e:=r.length;simp_all
def Inv.tupE {G:Prop}(I:Inv X ag σ H s)(h:iH X.K H a xs)(k:∀b:LU,bd xs b->IsTup s.heap a b.toArray->xs.length<=sizeLine->G):G:=let⟨i,d,p,z⟩:=I.tuple h;k i d p z
def Inv.list_inj (I:Inv X ag σ H s)(h:fW X.K H a xs)(k:fW X.K H a ys):xs=ys:=by
 obtain⟨c,r,⟨o,n,e,z,z,d⟩,z⟩:=I.list h;obtain⟨b,M,⟨q,U,O,z,z,w⟩,z⟩:=I.list k;rw[e]at O;have:c=b:=by simp_all
 subst this;exact r.inj M
def Inv.tuple_inj (I:Inv X ag σ H s)(h:iH X.K H a xs)(k:iH X.K H a ys):xs=ys:=by
 obtain⟨c,r,⟨o,e,z,n,d⟩,z⟩:=I.tuple h;obtain⟨b,M,⟨q,O,z,U,w⟩,z⟩:=I.tuple k;rw[e]at O;have:c=b:=by simp_all
 subst this;exact r.inj M
end
noncomputable abbrev Cx.wish (X:Cx)(E:QV):Cx:={ X with xe:=E }
noncomputable abbrev Cx.nox (X:Cx):Cx:=X.wish λz z=>False
def Cx.Ok.wish {X:Cx}(a:X.Ok)(E:QV):(X.wish E).Ok:=
 ⟨a.mod,a.kind,a.glob,a.blt,a.above,a.inj,a.has,a.cab,a.hd,a.frames,a.stk,a.exf,a.bs,a.bsz,a.noex,a.exfs,a.funs,a.frf⟩
def Cx.Ok.unwish {X:Cx}{E:QV}(a:(X.wish E).Ok):X.Ok:=
 ⟨a.mod,a.kind,a.glob,a.blt,a.above,a.inj,a.has,a.cab,a.hd,a.frames,a.stk,a.exf,a.bs,a.bsz,a.noex,a.exfs,a.funs,a.frf⟩
section
variable {X:Cx}{ag:AO}{σ:St}{H:Hp}{s:Shared}{E:QV}
def Inv.wish (I:Inv X ag σ H s)(E:QV):Inv (X.wish E) ag σ H s:=⟨I.ok.wish E,I.os,I.bare,I.base,I.loc,I.cell,I.free,I.freeC,I.pin,I.hok,I.len⟩
def Inv.unwish (I:Inv (X.wish E) ag σ H s):Inv X ag σ H s:=⟨I.ok.unwish,I.os,I.bare,I.base,I.loc,I.cell,I.free,I.freeC,I.pin,I.hok,I.len⟩
def SP.unwish (h:SP (X.wish E) ag D f d):SP X ag D f d:=by
 cases f with
 |next=>obtain⟨M,a,I,q⟩:=h;exact⟨M,a,I.unwish,q⟩
 |brk=>obtain⟨M,a,I,q⟩:=h;exact⟨M,a,I.unwish,q⟩
 |cont=>obtain⟨M,a,I,q⟩:=h;exact⟨M,a,I.unwish,q⟩
 |ret u=>obtain⟨v,M,a,I,r,q⟩:=h;exact⟨v,M,a,I.unwish,r,q⟩
def vn.nox(h:vn X.nox a t):vn X a t:=λag s σ H D I b=>
 wpAny_mono (h _ s σ H D (I.wish _) b) (λy y q=>q.unwish) λy y z=>False.elim z
end
section
variable {X:Cx}{st:Stmt}{aj:List Stmt}{t u:TS}{e:Expr}{te:TE}{pos:Pos}
def Qn:TS:=λD a H=>D.nx a H
def Vj (t u:TS):TS:=λD a H=>t { D with nx:=u D } a H
def Vl (te:TE):TS:=λD a H=>te a H λz M=>D.nx a M
def Db (c:PE X e te)(k:swapsWith e none pos.line X.env=pure false:=by rfl):PS X (.Expr e pos) (Vl te):=λo s b H D I h=>wpAny_Expr_any (bY (c _ s b H _ I h) λv q ⟨x,M,O,a,U⟩=>⟨b,M,O,U⟩) (by simp[interactive,I.ok.kind]) k
def Rx (te:TE):TS:=λD a H=>te a H D.rt
def Ii (c:PE X e te):PS X (.Return (some e) pos) (Rx te):=λk s b H D I h=>wpAny_Return_some (bY (c _ s b H _ I h) λv o ⟨x,M,O,U,a⟩=>⟨x,b,M,O,U,a⟩)
def Vm (c:TT)(t u:TS):TS:=λD a H=>c a H λb M=>if b=true then t D a M else u D a M
def Vn(q:PT X c M)(r:vn X a t)(w:vn X b u):PS X (.If c a b pos) (Vm M t u):=by
 intro z s k H D I h;refine wpAny_If (bY (q _ s k H _ I h) λd o ⟨O,U,f⟩=>?_);cases d with
 |true=>exact r _ o k O D U f
 |false=>exact w _ o k O D U f
end
abbrev TG:=V->St->Hp->(St->Hp->Prop)->Prop
abbrev Qo:=List V->St->Hp->(St->Hp->Prop)->Prop
def PG (X:Cx)(M:Expr)(t:TG):Prop:=
 ∀(a:AO)(s:Shared)(b:St)(H:Hp)(v:V)(u:Value)(Q:St->Hp->Prop),Inv X a b H s->aI v u->t v b H Q ->
  wq X (assign M X.env u) (λz k=>∃O c,Inv X a O c k/\Q O c) X.xe s
def Vo (X:Cx)(O:QD)(t:Qo):Prop:=
 ∀(a:AO)(s:Shared)(b:St)(H:Hp)(c:List V)(k:LU)(Q:St->Hp->Prop),Inv X a b H s->bd c k->t c b H Q ->
  wq X (assignInOrder ((assignEach O X.env).map (·.2)) k) (λz q=>∃M o,Inv X a M o q/\Q M o) X.xe s
abbrev Ry:=V->V->V->Hp->(Hp->Prop)->Prop
def Vp (X:Cx)(t:Ry):Prop:=
 ∀(a:AO)(s:Shared)(b:St)(H:Hp)(o i v:V)(M c u:Value)(Q:Hp->Prop),Inv X a b H s->aI o M->aI i c->aI v u->t o i v H Q ->
  wq X (setItem M c u) (λz q=>∃k,Inv X a b k q/\Q k) X.xe s
section
variable {X:Cx}{pos:Pos}
def jm (i:Nat):TG:=λv a H Q=>Q (a.set i (some v)) H
def Dc (M:X.N.Nodup)(a:X.N[i]? = some x)(hx:M7 X.env.scope x)(b:X.fn x=true\/X.env.scope.names.lookup x=some .local:=by first|exact .inl rr|exact .inr rr|assumption):PG X (.Name x pos) (jm i):=λc s k H v u Q I r h=>wpAny_assign_Name (yT I M a hx r (λo O=>⟨_,H,O,h⟩) b)
def Vq:Qo:=λa b H Q=>a=[]/\Q b H
def Qp (t:TG)(u:Qo):Qo:=λa b H Q=>∃v r,a=v::r/\t v b H λM c=>u r M c Q
def lB:Vo X [] Vq:=by
 intro b s a H c k Q I r h;obtain⟨e,h⟩:=h;exact assignInOrder_nil ⟨a,H,I,h⟩
def cQ(o:PG X e t)(q:Vo X k u)
  (w:(assignEach (e::k) X.env).map (·.2)=assign e X.env::(assignEach k X.env).map (·.2):=by rfl):Vo X (e::k) (Qp t u):=by
 intro F s z H K P Q I r h;obtain⟨v,d,M,h⟩:=h;subst M;cases r with
 |cons r O=>
  rw[w];exact assignInOrder_cons (bY (o _ s z H _ _ _ I r h) λy D ⟨U,a,b,c⟩=>q _ D _ a _ _ Q b O c)
def Ij (K:Frag)(n:Nat)(t:Qo):TG:=λv c H Q=>∃a b,v=.ref a/\iH K H a b/\b.length=n/\t b c H Q
def B7 (w:X.calm=true)(h:Vo X f t)
  (z:(assignEach f X.env).length=n:=by rfl) (M:(assignEach f X.env).findIdx? (·.1)=none:=by rfl):PG X (.Tuple f k pos) (Ij X.K n t):=by
 intro V s D H v u Q I r q;obtain⟨a,F,U,P,R,q⟩:=q;subst U;cases r
 refine I.tupE P λS O c W=>assign_Tuple_tuple (I.ok.hd w) c (by simp[z,<-R,O.length]) M λZ hx=>?_;have d:=I.kept (t':=s.toks) λb o e=>hx b o (vS (vX e)) e;exact h _ _ D H F _ Q d (by simpa using O) q
def aal (b c:TE)(t:Ry):TG:=λv a H Q=>b a H λo M=>c a M λi k=>t o i v k λO=>Q a O
def Rz(O:PE X o w)(D:PE X i z)(F:Vp X t)
  (V:∀v,assign (.Subscript o i pos) X.env v=(do
   let M <-holding [v] (eval o X.env)
   let l <-holding [v,M] (eval i X.env)
   standAt pos
   holding [v,M,l] (setItem M l v)
   release [v,M,l] []):=by intro p;rfl):PG X (.Subscript o i pos) (aal w z t):=by
 intro W s q H v u Q I r h;refine wX (wpAny_holding (bY (O _ s q H _ I h) λM K ⟨x,U,a,b,c⟩=>wX (wpAny_holding (bY (D _ K q U _ a c) λl P ⟨y,R,d,e,S⟩=>?_))));exact wX (wpAny_standAt (wX (wpAny_holding (bY (F _ P q R x y v M l u _ d b e r S) λp k ⟨f,g,j⟩=>wpAny_release ⟨q,f,g,j⟩))))
def B8 (M:TE)(g:TG):TS:=λD a H=>M a H λx O=>g x a O D.nx
def Ik(r:PE X e M)(O:PG X k g)(w:swapsWithSole [k] e pos.line X.env=pure false:=by rfl)(z:swappedStores [k] e X.env=pure none:=by rfl)
  (F:(assignEach [k] X.env).map (·.2)=[assign k X.env]:=by rfl):PS X (.Assign [k] e pos) (B8 M g):=by
 intro P s o H D I h;refine wpAny_Assign_stores (bY (r _ s o H _ I h) λv K ⟨x,U,a,b,c⟩=>?_) w z;rw[F];exact bY (O _ K o U x v _ a b c) λy R q=>q
def xz(U:X.N.Nodup)(k:X.N[i]? = some x)(hx:M7 X.env.scope x)(o:PE X e O)(q:swapsWith e (some (.Name x M)) pos.line X.env=pure false:=by rfl)(r:X.fn x=true\/X.env.scope.names.lookup x=some .local:=by first|exact .inl rr|exact .inr rr|assumption):
  PS X (.Assign [.Name x M] e pos) (B8 O (jm i)):=by
 intro z s w H D I h;exact wpAny_Assign_Name (bY (o _ s w H _ I h) λv F ⟨y,a,b,c,d⟩=>yT b U k hx c (λK f=>⟨_,a,f,d⟩) r) q
end
section
variable {X:Cx}{pos:Pos}
def Il (c:TT)(o:TS):TS:=λD a H=>∃W:Nat->St->Hp->Prop,(∃m,W m a H)/\∀m a H,W m a H ->
 c a H λb O=>if b=true then ∃N:St->Hp->Prop,(∀M k,N M k->∃U,U<m/\W U M k)/\o { D with nx:=N,ct:=N,bk:=D.nx } a O else D.nx a O
def Im(R:PassesOwn (model X.prog X.w) X.A X.env X.xe)(Z:PT X c l)(y:vn X M P):PS X (.While c M [] pos) (Il l P):=by
 intro J s B H D I h;obtain⟨W,⟨q,r⟩,U⟩:=h;refine wpAny_While (codeAny_whileLoop (λn C=>∃a S,Inv X _ a S C/\W n a S) ?_ q ⟨B,H,I,r⟩);rintro n E ⟨g,m,t,u⟩;refine wpAny_passesOwn R (bY (Z _ E _ m _ t (U n _ m u)) λb G ⟨V,o,z⟩=>?_);cases b with
 |true=>
  obtain⟨N,p,z⟩:=z;refine wpAny_passesOwn R (bY (y _ G _ V _ o z) λf x e=>?_);cases f with
  |next=>
   obtain⟨O,d,i,F⟩:=e;obtain⟨j,K,k⟩:=p _ d F;exact⟨j,K,O,d,i,k⟩
  |cont=>
   obtain⟨O,d,i,F⟩:=e;obtain⟨j,K,k⟩:=p _ d F;exact⟨j,K,O,d,i,k⟩
  |brk=>exact e
  |ret v=>exact e
 |false=>
  exact wpAny_execs_nil ⟨g,V,o,z⟩
end
structure It where
 go:Nat->Hp->Prop
 yld:Nat->Hp->V->Hp->Prop
 stop:Nat->Hp->Prop
def mm (X:Cx)(a:AO)(H:Hp)(b:Addr):Prop:=
 H b=none/\b≠X.env.locals/\b∉X.fs/\(b∈X.ex\/X.s₀.z<=b)/\(∀x c,X.env.cells.lookup x=some c->c≠b)/\∀p∈X.pn++a,p.1≠b
def Inv.fpOk (I:Inv X d g H s)(a:s.z<=b)(k:f b=none):mm X d f b:=by
 refine⟨k,ne_of_gt (vQ I.lt a),I.nofs a,.inr (vR I.sz a),λx c e z=>?_,λp o z=>?_⟩
 .obtain⟨v,q⟩:=I.cell x c e;exact absurd (vQ q.lt (by rw[z];exact a)) (Nat.lt_irrefl _)
 .exact absurd (vQ (vX (I.pin p o).1) (by rw[z];exact a)) (Nat.lt_irrefl _)
structure Turn (P:Program)(w:World)(K:Frag)(tg:Expr)(J:It)(fp:List Addr)(it:Addr)(tn:Nat->Heap->Prop):Prop where
 mem:it∈fp
 obj:∀i h,tn i h->∀b∈fp,∃o,h.get? b=some o/\∀v,o.data≠.cell v
 keep:∀i h h',tn i h->(∀b∈fp,∀o,h.get? b=some o->h'.get? b=some o)->tn i h'
 item:∀(X:Cx),X.prog=P->X.w=w->X.K=K->X.calm=true->∀(i:Nat)(ag:List (Addr×Obj))(s:Shared)(σ:St)(H:Hp)(E:Value->Shared->Prop),Inv X ag σ H s->(∀b∈fp,mm X ag H b)->tn i s.heap->J.go i H ->
  wpAny (model P w) X.A (pyNext (.ref it)) (λr s1=>∃u,r=some u /\
   wpAny (model P w) X.A (letOwnedTupleGo tg (.ref it) u) (λ_ s2=>∃x H',Inv X ag σ H' s2/\aI x u/\J.yld i H x H'/\tn (i+1) s2.heap/\∀b∈fp,H' b=none) E s1) E s
 done:∀(X:Cx),X.prog=P->X.w=w->X.K=K->X.calm=true->∀(i:Nat)(ag:List (Addr×Obj))(s:Shared)(σ:St)(H:Hp)(E:Value->Shared->Prop),Inv X ag σ H s->(∀b∈fp,mm X ag H b)->tn i s.heap->J.stop i H ->
  wpAny (model P w) X.A (pyNext (.ref it)) (λr s1=>r=none/\Inv X ag σ H s1) E s
 self:∀(A:Around)(i:Nat)(s:Shared)(Q:Value->Shared->Prop)(E:Value->Shared->Prop),tn i s.heap->Q (.ref it) s->wpAny (model P w) A (pyIter (.ref it)) Q E s
abbrev TI:=St->Hp->(It->Hp->Prop)->Prop
def PIE (X:Cx)(c:AO)(z:St)(D:Expr)(R:It->Hp->Prop)(M:Value)(k:Shared):Prop:=
 ∃(o:Addr)(q:List Addr)(r:Nat->Heap->Prop)(J:It)(a:Hp),M=.ref o/\Inv X c z a k/\Turn X.prog X.w X.K D J q o r/\r 0 k.heap/\(∀b∈q,mm X c a b)/\R J a
def PI (X:Cx)(c M:Expr)(O:TI):Prop:=
 ∀(b:AO)(s:Shared)(a:St)(H:Hp)(R:It->Hp->Prop),Inv X b a H s->O a H R ->
  wq X (eval M X.env) (λv k=>wq X (pyIter v) (PIE X b a c R) X.xe k) X.xe s
def qj (U:s.heap.get? d=some o)(a:o.cls=.type n)(b:o.data=.fields e)
    (c:["enumerate","zip","dict_itemiterator","dict_reverseitemiterator","odict_iterator","itertools.zip_longest","itertools.pairwise"].contains n=false) (O:Q () s):wpAny M A (letOwnedTupleGo f (.ref d) u) Q E s:=by
  cases f<;>first
    |exact wY O
    | (cases u<;>first
        |exact wY O
        | (refine wX (wpAny_load U ?_)
           rw[a,b]
           show wpAny M A (if(["enumerate","zip","dict_itemiterator","dict_reverseitemiterator","odict_iterator","itertools.zip_longest","itertools.pairwise"].contains n && e[0]? == some _)=true then _ else _) Q E s
           rw[if_neg (by intro h;rw[c]at h;cases h)]
           exact wY O))
noncomputable def Itl (K:Frag)(a:Addr):It:=
 ⟨λi H=>∃b x,fW K H a b/\b[i]? = some x,λi H x c=>c=H/\∀b,fW K H a b->b[i]? = some x,λi H=>∃b,fW K H a b/\b.length<=i⟩
noncomputable def Itt (K:Frag)(a:Addr):It:=
 ⟨λi H=>∃b x,iH K H a b/\b[i]? = some x,λi H x c=>c=H/\∀b,iH K H a b->b[i]? = some x,λi H=>∃b,iH K H a b/\b.length<=i⟩
noncomputable def Z8 (a:Int)(n:Nat):It:=⟨λi z=>i<n,λi H x b=>b=H/\x=.int (a+i),λi z=>n<=i⟩
def FZ {P:Program}{w:World}{K:Frag}{y:Expr}(a F:Addr):Turn P w K y (Itl K a) [F] F (λi h=>h.IsListIter F a i) where
 mem:=C_
 obj:=λi h z b D=>by
  have e:=by simpa using D
  obtain⟨o,e,c,d⟩:=z;simp_all
 keep:=λi h Z z k=>z.at λo e=>k F C_ o e
 item:=by
  intro X O V U v i A s B H E I R z f;subst O V U;obtain⟨C,x,S,hx⟩:=f;refine I.lisE S λW g p G=>?_;refine cX λY g'=>?_;obtain⟨u,J,L⟩:=g.get hx;obtain⟨j,f1,f2,l,m,n⟩:=R F C_;apply g';refine wpAny_pyNext_list_item z p.isList (by simpa using J) λZ M q=>?_;have r:=I.turned (t':=s.toks) (λb o D e=>(q.2 b D).trans e) j f1 l m n;obtain⟨o,e,c,d⟩:=id M;exact⟨u,rr,qj e c d C_ ⟨x,H,r,L,⟨rr,λQ N=>by rw[I.list_inj N S];exact hx⟩,M,λb D=>(R b D).1⟩⟩
 done:=by
  intro X O V U v i A s B H E I R z f;subst O V U;obtain⟨C,S,hx⟩:=f;refine I.lisE S λW g p G=>?_;refine cX λY g'=>?_;obtain⟨j,f1,f2,l,m,n⟩:=R F C_;apply g';have T:=g.length;exact wpAny_pyNext_list_end (I.ok.hd v) z p.isList N8 λZ t=>⟨rr,I.turned (λb o D e=>t b o D e) j f1 l m n⟩
 self:=λY Y Y Y Y z h=>wpAny_pyIter_listiter z h
def B9 {P:Program}{w:World}{K:Frag}{y:Expr}(a F:Addr):Turn P w K y (Itt K a) [F] F (λi h=>h.IsTupleIter F a i) where
 mem:=C_
 obj:=λi h z b D=>by
  have e:=by simpa using D
  obtain⟨o,e,c,d⟩:=z;simp_all
 keep:=λi h Z z k=>z.at λo e=>k F C_ o e
 item:=by
  intro X O V U v i A s B H E I R z f;subst O V U;obtain⟨C,x,S,hx⟩:=f;refine I.tupE S λW g p G=>?_;refine cX λY g'=>?_;obtain⟨u,J,L⟩:=g.get hx;obtain⟨j,f1,f2,l,m,n⟩:=R F C_;apply g';refine wpAny_pyNext_tuple_item z (show s.heap.IsTuple a _ from p) (by simpa using J) λZ M q=>?_;have r:=I.turned (t':=s.toks) (λb o D e=>(q.2 b D).trans e) j f1 l m n;obtain⟨o,e,c,d⟩:=id M;exact⟨u,rr,qj e c d C_ ⟨x,H,r,L,⟨rr,λQ N=>by rw[I.tuple_inj N S];exact hx⟩,M,λb D=>(R b D).1⟩⟩
 done:=by
  intro X O V U v i A s B H E I R z f;subst O V U;obtain⟨C,S,hx⟩:=f;refine I.tupE S λW g p G=>?_;refine cX λY g'=>?_;obtain⟨j,f1,f2,l,m,n⟩:=R F H9;apply g';have T:=g.length;exact wpAny_pyNext_tuple_end (I.ok.hd v) z (show s.heap.IsTuple a _ from p) N8 λZ t=>⟨rr,I.turned (λb o D e=>t b o D e) j f1 l m n⟩
 self:=λY Y Y Y Y z h=>wpAny_pyIter_tupleiter z h
def BA {P:Program}{w:World}{K:Frag}{p:Expr}(r:Addr)(F:Int)(n:Nat):Turn P w K p (Z8 F n) [r] r (λi h=>IsRangeIter h r (F+(i:Nat)*1) ((n:Int) - (i:Nat)) 1) where
 mem:=C_
 obj:=λi h q b z=>by
  simp_all
 keep:=λi h R q k=>k r C_ _ q
 item:=by
  intro X f V g S i u s Z H E I D q O;subst f V g;obtain⟨U,f1,f2,a,c,d⟩:=D r H9;have W:=Walks.range (prog:=X.prog) (w:=X.w) (I.ok.hd S) r F 1 n;refine W.item i s _ _ O q λv R x y M j=>?_;obtain⟨t,rfl⟩:=y;refine⟨_,rr,qj M rr rr C_ ⟨.int _,H,I.turned (λb o z e=>j b o (by simpa using z) e) U f1 a c d,⟨t,?_⟩,⟨rr,rr⟩,M,λb z=>(D b z).1⟩⟩;simp
 done:=by
  intro X f V g S i u s Z H E I D q O;obtain⟨U,f1,f2,a,c,d⟩:=D r H9;exact wpAny_pyNext_range_end (I.ok.hd S) q (by have:n<=i:=O;lia) λR m=>⟨rr,I.turned (λb o z e=>m b o z e) U f1 a c d⟩
 self:=λl l l l l q h=>wpAny_pyIter_rangeiter q h
section
variable {X:Cx}{tg:Expr}
def Vr (K:Frag)(b:TE):TI:=λc H R=>b c H λx M=>∃a,x=.ref a/\(∃k,fW K M a k)/\R (Itl K a) M
def aam (K:Frag)(b:TE):TI:=λc H R=>b c H λx M=>∃a,x=.ref a/\(∃k,iH K M a k)/\R (Itt K a) M
def MU(w:PE X l k):PI X tg l (Vr X.K k):=by
 intro V s D H R I h;refine bY (w _ s D H _ I h) λv r ⟨x,O,M,U,c⟩=>?_;obtain⟨a,e,⟨W,F⟩,q⟩:=c;subst e;cases U
 refine M.lisE F λP d p Z=>wpAny_pyIter_list p.isList ?_;refine⟨r.z,[r.z],_,_,O,rr,M.kept λb o=>vZ _,FZ a _,⟨_,vY _ rr,rr,rr⟩,λb S=>?_,q⟩;have e:=by simpa using S
 subst e;exact M.fpOk (vT _) (M.hok.fresh (vT _))
def R0(w:PE X l r):PI X tg l (aam X.K r):=by
 intro V s D H R I h;refine bY (w _ s D H _ I h) λv k ⟨x,O,M,U,c⟩=>?_;obtain⟨a,e,⟨W,F⟩,q⟩:=c;subst e;cases U
 refine M.tupE F λP d p Z=>wpAny_pyIter_tuple (show k.heap.IsTuple a _ from p) ?_;refine⟨k.z,[k.z],_,_,O,rr,M.kept λb o=>vZ _,B9 a _,⟨_,vY _ rr,rr,rr⟩,λb S=>?_,q⟩;have e:=by simpa using S
 subst e;exact M.fpOk (vT _) (M.hok.fresh (vT _))
def Io {r:AO}{k:St}{H:Hp}{s:Shared}{R:It->Hp->Prop}{E:QV}{a c:Int}{t u v:Tok}{w:Nat}(I:Inv X r k H s)(D : -(2 ^ 62)<=a)(F:a<2 ^ 62)(K : -(2 ^ 62)<=c)(P:c<2 ^ 62)
  (q:R (Z8 a (c - a).toNat) H):wq X (pyIter (.ref s.z)) (PIE X r k tg R) E { s with heap:=s.heap.push { cls:=.type "range",data:=.fields #[.int a t,.int c u,.int 1 v] },toks:=w }:=by
 refine wpAny_pyIter_range (IsRange.new ..) (small_one D F K P) ?_;have M:Inv X _ k H { s with heap:=s.heap.push { cls:=.type "range",data:=.fields #[.int a t,.int c u,.int 1 v] },toks:=w }:=I.kept λb o e=>vZ _ e;refine⟨(s.heap.push _).objs.size,[(s.heap.push _).objs.size],_,_,H,rr,
  M.kept λb o e=>vZ _ e,BA _ a _,?_,λb S=>?_,q⟩
 .have O:a+((0:Nat):Int)*1=a:=H9
  have V:(((c - a).toNat:Nat):Int) - ((0:Nat):Int)=Builtin.Range.rangeSize a c 1:=by rw[rangeSize_one];split<;>grind
  rw[O,V];exact vY _ rr
 .have e:b=(s.heap.push { cls:=.type "range",data:=.fields #[.int a t,.int c u,.int 1 v] }).objs.size:=by simpa using S
  subst e;exact M.fpOk (vT _) (M.hok.fresh (vT _))
def Vs (a:TA):TI:=λb H R=>a b H λc M=>∃j:Int,c=[.int j]/\-(2 ^ 62)<=j/\j<2 ^ 62/\R (Z8 0 j.toNat) M
def Ga(U:Gl X "range")(o:X.mg "range" = none)(w:PA X [a] k)(z:d4 a X.env:=by rfl):PI X tg (.Call (.Name "range" p) [a] [] M) (Vs k):=by
 intro K s D H R I h;refine Call_ (jb I U o boot_range (PyProof.Rows.callWith_type1 (bY (w _ _ s D H _ I h) λP S ⟨V,f,b,c,O⟩=>?_) z rr));obtain⟨j,e,O,F,q⟩:=O;subst e;cases c with
 |cons r d=>
  cases d
  obtain⟨t,rfl⟩:=r;exact call_range_1 (Io b M_ M_ O F (by simpa using q))
def R1 (a:TI)(g:TG)(o:TS):TS:=λD c H=>a c H λJ b=>∃W:Nat->Nat->St->Hp->Prop,(∃m,W 0 m c b)/\∀i m c H,W i m c H ->
 (J.stop i H/\D.nx c H)\/(J.go i H/\∃N:St->Hp->Prop,(∀M k,N M k->∃U,U<m/\W (i+1) U M k)/\∀x k,J.yld i H x k->g x c k λO q=>o { D with nx:=N,ct:=N,bk:=D.nx } O q)
def rO (a:List Addr)(h:Heap):AO:=a.filterMap λb=>(h.get? b).map λo=>(b,o)
def j9{b:Addr}{o:Obj}(c:b∈a)(e:h.get? b=some o):(b,o)∈rO a h:=mem_filterMap.mpr ⟨b,c,by rw[e];rfl⟩
def Gb (a:p∈rO d h):p.1∈d/\h.get? p.1=some p.2:=by
 obtain⟨b,c,e⟩:=mem_filterMap.mp a;simp_all<;>grind
def Inv.pinned (I:Inv X d g H s)(a:∀b∈f,mm X d H b)(M:∀b∈f,∃o,s.heap.get? b=some o/\∀v,o.data≠.cell v):Inv X (d++rO f s.heap) g H s:=
 I.pins_of λp c=>(mem_append.mp c).elim (λz=>I.pin p (mY _ z)) λz=>by
  obtain⟨k,e⟩:=Gb z;obtain⟨O,f1,f2,y⟩:=a _ k;grind
def Inv.unpinned (I:Inv X (d++f) e H s):Inv X d e H s:=I.pins_of λp a=>I.pin p (mY _ (mem_append_left _ a))
def Ip {O:Expr}{l:List Stmt}{L:TI}{g:TG}{tb:TS}{B:Pos}(hp:PassesOwn (model X.prog X.w) X.A X.env X.xe)(hc:X.calm=true)(hi:PI X tg O L)(V:PG X tg g)(hb:vn X l tb)
  (hs:∀x,foldedSetIterable O X.env x=pure x:=by intro _;rfl):PS X (.For tg O l [] B) (R1 L g tb):=by
 intro ag s σ H D I h;refine wpAny_For (bY (hi ag s σ H _ I h) λv s1 h1=>bY h1 λY s2 h2=>?_) hs;refine cX λ_ g'=>?_;obtain⟨it,fp,tn,J,H2,e,Z,T,Qd,f2,W,⟨m0,w0⟩,Uj⟩:=h2;apply g';subst e
 -- what stays true of the iterator's objects through the loop
 have U:∀ {H':Hp},(∀b∈fp,H' b=none)->∀b∈fp,mm X ag H' b:=λhn b hb=>⟨hn b hb,(f2 b hb).2⟩;refine codeAny_forLoop_any (λn s'=>∃i a H',Inv X ag a H' s'/\tn i s'.heap/\(∀b∈fp,H' b=none)/\W i n a H') ?_ m0 ⟨0,σ,H2,Z,Qd,λb hb=>(f2 b hb).1,w0⟩;rintro n P ⟨i,c,z,Q,R,t,w3⟩;rcases Uj i n c z w3 with⟨stop,qn⟩|⟨go,N,hN,step⟩
 .refine wpAny_passesOwn hp (bY (T.done X rr rr rr hc i ag P c z X.xe Q (U t) R stop) λr s4 ⟨C,I4⟩=>?_);subst C;exact wpAny_execs_nil ⟨c,z,I4,qn⟩
 .refine wpAny_passesOwn hp (bY (T.item X rr rr rr hc i ag P c z X.xe Q (U t) R go) λr s4 ⟨u,C,h4⟩=>?_);subst C;refine wpAny_passesOwn hp (bY h4 λ_ s5 ⟨x,S,I5,r5,y5,q,E⟩=>?_);have F:=I5.pinned (U E) (T.obj _ _ q);refine wpAny_passesOwn hp (bY (V _ s5 c S x u _ F r5 (step x S y5)) λ_ s6 ⟨G,H6,I6,q6⟩=>?_);refine wpAny_passesOwn hp (bY (hb _ s6 G H6 _ I6 q6) λf K p=>?_);have again:∀ {M:St}{j:Hp},Inv X _ M j K->N M j->∃m,m<n/\∃i a H',Inv X ag a H' K/\tn i K.heap/\(∀b∈fp,H' b=none)/\W i m a H':=λ{M j} k y=>by
   obtain⟨m',hm,w7⟩:=hN M j y;refine⟨m',hm,i+1,M,j,k.unpinned,T.keep _ _ _ q λb hb o e=>(k.pin (b,o) (mY _ (mY _ (j9 hb e)))).1,λb hb=>?_,w7⟩;obtain⟨o,e,d⟩:=T.obj _ _ q b hb;exact(k.pin (b,o) (mY _ (mY _ (j9 hb e)))).2.1
  cases f with
  |next=>obtain⟨M,j,k,y⟩:=p;exact again k y
  |cont=>obtain⟨M,j,k,y⟩:=p;exact again k y
  |brk=>obtain⟨M,j,k,p⟩:=p;exact⟨M,j,k.unpinned,p⟩
  |ret v=>refine cX λ_ g'=>?_;obtain⟨x7,M,j,k,r7,p⟩:=p;apply g';exact⟨x7,M,j,k.unpinned,r7,p⟩
end
abbrev R2:=V->V->Hp->VK->Prop
def dj (X:Cx)(f:Value->Value->Sem Value)(r:R2):Prop:=
 ∀(a:AO)(s:Shared)(b:St)(H:Hp)(x y:V)(v u:Value)(Q:VK),Inv X a b H s->aI x v->aI y u->r x y H Q ->
  wq X (f v u) (EP X a b Q) X.xe s
def Vt (X:Cx)(f:Value->Sem Value)(r:V->Hp->VK->Prop):Prop:=
 ∀(a:AO)(s:Shared)(b:St)(H:Hp)(x:V)(v:Value)(Q:VK),Inv X a b H s->aI x v->r x H Q ->
  wq X (f v) (EP X a b Q) X.xe s
def bH (X:Cx)(f:Value)(r:List V->Hp->VK->Prop):Prop:=
 ∀(a:AO)(s:Shared)(b:St)(H:Hp)(c:List V)(k:LU)(Q:VK),Inv X a b H s->bd c k->r c H Q ->
  wq X (call f k) (EP X a b Q) X.xe s
def Z9 (r:R2)(b c:TE):TE:=λa H Q=>b a H λx M=>c a M λy k=>r x y k Q
def tUn (r:V->Hp->VK->Prop)(a:TE):TE:=λb H Q=>a b H λx M=>r x M Q
def rI (C:Int->Int->Prop)(g:Int->Int->V):R2:=λx y H Q=>∃i j,x=.int i/\y=.int j/\C i j/\Q (g i j) H
def Iq (g:Int->Int->V):R2:=λx y H Q=>∃i j,x=.int i/\y=.int j/\Q (g i j) H
def rU (g:Int->V):V->Hp->VK->Prop:=λx H Q=>∃i,x=.int i/\Q (g i) H
section
variable {X:Cx}{a b c:Expr}{ta tb tc:TE}{pos:Pos}
def R3 (w:PE X a ta)(z:PE X b tb){r:AO}{k:St}{R:V->V->Hp->Prop}(I:Inv X r k H s)
  (h:ta k H λx U=>tb k U λy o=>R x y o){f:Value->Value->Sem Value}
  (D:∀v u q x y o,Inv X r k o q->aI x v->aI y u->R x y o->wq X (f v u) Q X.xe q):
  wq X (eval a X.env) (λv M=>wq X (eval b X.env) (λu O=>wq X (f v u) Q X.xe O) X.xe M) X.xe s:=by
 refine bY (w _ s k H _ I h) λv F ⟨x,U,d,e,g⟩=>?_;exact bY (z _ F k U _ d g) λu q ⟨y,o,i,j,K⟩=>D v u q x y o i e j K
def Vv(M:Vt X (unaryOp k) r)(q:PE X a ta):PE X (.UnaryOp k a pos) (tUn r ta):=λz s o H Q I h=>UnaryOp_ (bY (q _ s o H _ I h) λv w ⟨x,O,U,d,e⟩=>M _ w o O x v Q U d e)
def Vw{C:Int->Int->Prop}{g:Int->Int->Int}
  (k:∀i j(t u)s(Q:QV)(E:QV),C i j->Q (.int (g i j) s.toks) { s with toks:=s.toks+1 }->wq X (f (.int i t) (.int j u)) Q E s):
  dj X f (rI C λi j=>.int (g i j)):=by
 intro w s z H x y v u Q I M O h;obtain⟨i,j,rfl,rfl,o,q⟩:=h;obtain⟨t,rfl⟩:=M;obtain⟨r,rfl⟩:=O;exact k i j t r s _ _ o ⟨.int _,H,I.tok _,⟨_,rr⟩,q⟩
def MV{g:Int->Int->Int}
  (k:∀i j(t u)s(Q:QV)(E:QV),Q (.int (g i j) s.toks) { s with toks:=s.toks+1 }->wq X (f (.int i t) (.int j u)) Q E s):
  dj X f (Iq λi j=>.int (g i j)):=by
 intro r s w H x y v u Q I M O h;obtain⟨i,j,rfl,rfl,q⟩:=h;obtain⟨t,rfl⟩:=M;obtain⟨o,rfl⟩:=O;exact k i j t o s _ _ ⟨.int _,H,I.tok _,⟨_,rr⟩,q⟩
def MW{g:Int->Int->Bool}
  (k:∀i j(t u)s(Q:QV)(E:QV),Q (.bool (g i j)) s->wq X (f (.int i t) (.int j u)) Q E s):
  dj X f (Iq λi j=>.bl (g i j)):=by
 intro r s w H x y v u Q I M O h;obtain⟨i,j,rfl,rfl,q⟩:=h;obtain⟨t,rfl⟩:=M;obtain⟨o,rfl⟩:=O;exact k i j t o s _ _ ⟨.bl _,H,I,rr,q⟩
def Vx (i j:Int):Prop:=0<j/\j<1073741824
def Vy (i j:Int):Prop:=0<=j/\j<=1000000/\i.natAbs<2 ^ 64
def MX (i j:Int):Prop:=(-(2 ^ 64)<i/\i<2 ^ 64)\/(-(2 ^ 64)<j/\j<2 ^ 64)
def MX.ok (h:MX i j):IntMulOk i j:=by
 rcases h with⟨k,o⟩|⟨k,o⟩
 .exact .of_left (intBits_le_64 k o)
 .exact .of_right (intBits_le_64 k o)
def R4:dj X (binaryOp .Add) (Iq λi j=>.int (i+j)):=MV λz z z z z z z=>add_int
def R5:dj X (binaryOp .Sub) (Iq λi j=>.int (i - j)):=MV λz z z z z z z=>sub_int
def R6:dj X (binaryOp .Mult) (rI MX λi j=>.int (i*j)):=Vw λz z z z z z z k q=>mul_int q k.ok
def MY:dj X (binaryOp .FloorDiv) (rI Vx λi j=>.int (i / j)):=Vw λi j z z z z z k q=>by
 have o:=k.1;have r:=k.2;grind[floordiv_int,PyProof.noPylong_small]
def R7:dj X (binaryOp .Mod) (rI (λz j=>0<j) λi j=>.int (i % j)):=Vw λi j z z z z z k q=>mod_int' N9 (by rw[Int.fmod_eq_emod_of_nonneg i N9];exact q)
def R8:dj X (binaryOp .Pow) (rI Vy λi j=>.int (i ^ j.toNat)):=Vw λz z z z z z z k=>pow_int_small k.1 k.2.1 k.2.2
def R9:dj X (binaryOp .BitAnd) (Iq λi j=>.int (Builtin.bitAnd i j)):=MV λz z z z z z z=>and_int
def Vz:dj X (binaryOp .BitOr) (Iq λi j=>.int (Builtin.bitOr i j)):=MV λz z z z z z z=>or_int
def unI{g:Int->Int}
  (k:∀i(t)s(Q:QV)(E:QV),Q (.int (g i) s.toks) { s with toks:=s.toks+1 }->wq X (f (.int i t)) Q E s):
  Vt X f (rU λi=>.int (g i)):=by
 intro o s r H x v Q I M h;obtain⟨i,rfl,q⟩:=h;obtain⟨t,rfl⟩:=M;exact k i t s _ _ ⟨.int _,H,I.tok _,⟨_,rr⟩,q⟩
def Gc:dj X (binaryOp .Add) (λx y H Q=>∃i k,x=.int i/\y=.bl k/\Q (.int (i+b2i k)) H):=by
 intro o s r H x y v u Q I M O h;obtain⟨i,k,rfl,rfl,q⟩:=h;obtain⟨t,rfl⟩:=M;cases O
 exact add_int_bool ⟨.int _,H,I.tok _,⟨_,rr⟩,q⟩
end
section
variable {X:Cx}{a b c:Expr}{ta tb tc:TE}{pos:Pos}
def V0:dj X (compareOp .Lt) (Iq λi j=>.bl (decide (i<j))):=MW λz z z z z z z=>lt_int
def V1:dj X (compareOp .LtE) (Iq λi j=>.bl (decide (i<=j))):=MW λz z z z z z z=>le_int
def V2:dj X (compareOp .Gt) (Iq λi j=>.bl (decide (j<i))):=MW λz z z z z z z=>gt_int
def V3:dj X (compareOp .GtE) (Iq λi j=>.bl (decide (j<=i))):=MW λz z z z z z z=>ge_int
def Qq (t:TE):TT:=λo H Q=>t o H λx q=>∃k,x=.bl k/\Q k q
def De(M:dj X (compareOp q) r)(D:PE X a ta)(F:PE X b tb)(K:behindInMarks q b=false):PT X (.Compare a [q] [b] pos) (Qq (Z9 r ta tb)):=by
 intro W s w H Q I h;refine wpAny_isTrue_Compare1 (bY (D _ s w H _ I h) λv P ⟨x,O,U,d,f⟩=>bY (F _ P w O _ U f) λu R ⟨y,S,g,i,V⟩=>
  bY (M _ R w S x y v u _ g d i V) λc o ⟨z,j,l,m,k,e,n⟩=>?_) K
 subst e;cases m
 exact wpAny_truthy_bool ⟨j,l,n⟩
def BB (r O:R2)(ta tb tc:TE):TE:=λo H Q=>ta o H λx U=>tb o U λy q=>r x y q λz M=>∃k,z=.bl k /\
 (if k=true then tc o M λd e=>O y d e Q else Q (.bl false) M)
def Ir{r U:R2}(l:dj X (compareOp P) r)(O:dj X (compareOp M) U)(R:PE X a ta)(S:PE X b tb)(V:PE X c tc)
  (W:lastMarks [P,M] [b,c]=false:=by with_unfolding_all rfl):PE X (.Compare a [P,M] [b,c] pos) (BB r U ta tb tc):=by
 intro T s K H Q I h;refine Compare_chain (bY (R _ s K H _ I h) λv Z ⟨x,m,n,o,p⟩=>chain_link (bY (S _ Z K m _ n p) λu J ⟨y,L,q,f,N⟩=>
  bY (l _ J K L x y v u _ q o f N) λd t ⟨z,g,i,w,k,e,j⟩=>?_)) W
 subst e;cases w
 refine wpAny_truthy_bool ?_;cases k with
 |false=>exact ite_ff ⟨.bl _,g,i,rr,j⟩
 |true=>exact ite_tt (chain_last (bY (V _ t K g _ i j) λA B ⟨C,D,E,F,G⟩=>O _ B K D y C u A Q E f F G))
def Iu {W M:CmpOp}{r U:R2}(l:dj X (compareOp W) r)(O:dj X (compareOp M) U)(Z:PE X a ta)(Y:PE X b tb)(hc:PE X c tc)
  (hm:lastMarks [W,M] [b,c]=false:=by with_unfolding_all rfl):PT X (.Compare a [W,M] [b,c] pos) (Qq (BB r U ta tb tc)):=by
 intro ag s V H Q I h;refine isTrue_chain (bY (Z _ s V H _ I h) λv s1 ⟨x,m,n,o,p⟩=>test_link (bY (Y _ s1 V m _ n p) λu s2 ⟨y,H2,q,f,q2⟩=>
  bY (l _ s2 V H2 x y v u _ q o f q2) λd t ⟨z,g,i,w,k,e,j⟩=>?_)) hm
 subst e;cases w
 refine wpAny_truthy_bool ?_;cases k with
 |false=>
  obtain⟨k',A,B⟩:=j;cases A
  exact ite_ff ⟨g,i,B⟩
 |true=>
  refine ite_tt (test_last (bY (hc _ t V g _ i j) λC D ⟨E,F,G,J,K⟩=>bY (O _ D V F y E u C _ G f J K) λd' S ⟨T,L,N,P,k2,e2,R⟩=>?_));subst e2;cases P
  exact wpAny_truthy_bool ⟨L,N,R⟩
def pz:(sizeLine:Nat)<2 ^ 63:=I9
def BC:dj X (binaryOp .Add) (λx y H Q=>∃i j,x=.str i/\y=.str j/\i.length+j.length<=sizeLine/\Q (.str (i++j)) H):=by
 intro r s w H x y v u Q I M O h;obtain⟨i,j,rfl,rfl,k,q⟩:=h;obtain⟨t,rfl⟩:=M;obtain⟨o,rfl⟩:=O;exact add_str (λo z=>⟨.str _,H,I.tok _,⟨_,rr⟩,q⟩) k
def gA (r:bd [x] d):∃u,d=[u]/\aI x u:=by
 cases r with
 |cons M O=>cases O;exact⟨_,rr,M⟩
def Iv (r:bd [x,y] f):∃u M,f=[u,M]/\aI x u/\aI y M:=by
 cases r with
 |cons O U=>
  cases U with
  |cons d e=>cases e;exact⟨_,_,rr,O,d⟩
end
structure Qe (h:Heap)(x dx C:Addr)(mA:Str->Option Value):Prop where
 obj:h.get? x=some (PySem.W.instObj C dx)
 ns:h.Ns1 dx mA
 ne:dx≠x
def Qe.look (I:Qe h x d C e):∃b,PySem.W.InstAt h x (PySem.W.instObj C d) C (some b)/\∀a,PySem.W.lookIn a b=some (e a):=
 let ⟨b,M,c⟩:=(by
  obtain⟨o,r,U,O,w,D,v,F⟩:=I.ns;refine⟨o,O,λb=>?_⟩;have c:=F b;unfold nsFind findBy at c;rw[<-Array.find?_toList]at c;unfold PySem.W.lookIn;rw[w];dsimp;split
  .simp_all
  .have a:r.toList.any (·.refKey)=false:=by
    rw[any_eq_false];intro y K;obtain⟨z,t,M⟩:=D y (Array.mem_toList_iff.mp K);simp[DictEntry.refKey,M]
   split<;>simp_all:∃q,h.get? d=some q/\∀b,PySem.W.lookIn b q=some (e b))
 ⟨b,⟨I.obj,rr,rr,M⟩,c⟩
section
variable {prog:Program}{w:World}{A:Around}{E:QV}{s:Shared}{K:Frag}{x dx C f:Addr}{mA:SV}{name:Str}{v:Value}
end
def mi.some_of (r:mi (some v) o):∃u,o=some u/\aI v u:=by
 cases o with
 |none=>exact(show False from r).elim
 |some u=>exact⟨u,rr,r⟩
section
variable {P:Program}{w:World}{H H':Hp}{h h':Heap}{a C dx:Addr}{fs fs':List (Str×V)}
end
structure Cls (K:Frag)(C:Addr):Prop where
 pg:PySem.W.plainGet K C Str.empty=true
 hd:PySem.W.hasDictIn K C=true
 po:PySem.W.plainOver K C=true
 sa:PySem.W.findIn K (.ref C) "__setattr__" = some (some (.builtin "object.__setattr__"))
def Cls.get {K:Frag}{C:Addr}(c:Cls K C)f:PySem.W.plainGet K C f=true:=c.pg
structure Meth (K:Frag)(C:Addr)(m:Str)(f:Addr):Prop where
 at_:PySem.W.findIn K (.ref C) m=some (some (.ref f))
 fn:PySem.W.isFn K (.ref f)=true
 kp:PySem.W.keepIn K (.ref f)=true
section
variable {X:Cx}{ag:AO}{σ:St}{H:Hp}{s:Shared}{a C dx:Addr}{fs:List (Str×V)}{f:Str}{v:V}{A:Around}{E:QV}
end
section
variable {X:Cx}{o e value:Expr}{f:Str}{pos Mv Uk:Pos}{ta tv:TE}
end
section
variable {X:Cx}{ag:AO}{σ:St}{H:Hp}{s:Shared}{A:Around}{E:QV}{Q:QV}{c:Value}{b:Bool}
inductive TyOf (K:Frag)(H:Hp):V->Value->Prop where
 |non:TyOf K H .non (.type "NoneType")
 |bl (x:Bool):TyOf K H (.bl x) (.type "bool")
 |int (i:Int):TyOf K H (.int i) (.type "int")
 |str (x:Str):TyOf K H (.str x) (.type "str")
 |flt (x:UInt64):TyOf K H (.flt x) (.type "float")
 |lst {a:Addr}{xs:List V}(e:H a=some (.lst xs)):TyOf K H (.ref a) (.type "list")
 |frz {a:Addr}{o:Obj}{xs:List V}(e:H a=some (.frz o (.lst xs))):TyOf K H (.ref a) (.type "list")
 |tup {a:Addr}{xs:List V}(e:H a=some (.tup xs)):TyOf K H (.ref a) (.type "tuple")
 |dK {a:Addr}{aB:List (dH×V)}{ob:Obj}(e:H a=some (.dK aB ob)):TyOf K H (.ref a) (.type "dict")
 |dT {a:Addr}{aB:List (List dH×V)}(e:H a=some (.dT aB)):TyOf K H (.ref a) (.type "dict")
 |ins {a C dx:Addr}{fs:List (Str×V)}(e:H a=some (.ins C dx fs)) (cl:Cls K C) (ha:PySem.W.findIn K (.ref C) "__class__" = some (some (.builtin "object.__class__")))
   (hn:PySem.W.specialIn K (.builtin "object.__class__") "__get__" = some (some (.builtin "getset_descriptor.__get__"))) (htk:PySem.W.takesIn K (.builtin "object.__class__")=some true)
   (hm:PySem.W.mroIn K C (.type "object")=some true):TyOf K H (.ref a) (.ref C)
def gT (I:Inv X ag σ H s)(M:aI x u)(V:TyOf X.K H x t)(e:PySem.W.kitOne X.K t c=some b)(h:∀Z,Q (.bool b) { s with toks:=Z }):
  wpAny (model X.prog X.w) A (call (.builtin "isinstance") [u,c]) Q E s:=by
 cases V with
 |non=>cases (show u=Value.none from M);exact kia_one PySem.W.kitx_none I.kIn True.intro e (λz=>nomatch z) h
 |bl y=>cases (show u=Value.bool y from M);exact kia_one PySem.W.kitx_bool I.kIn True.intro e (λz=>nomatch z) h
 |int i=>obtain⟨t,q⟩:=(show ∃t,u=Value.int i t from M);cases q;exact kia_one PySem.W.kitx_int I.kIn True.intro e (λz=>nomatch z) h
 |str y=>obtain⟨t,q⟩:=(show ∃t,u=Value.str y t from M);cases q;exact kia_one PySem.W.kitx_str I.kIn True.intro e (λz=>nomatch z) h
 |flt y=>obtain⟨t,q⟩:=(show ∃t,u=Value.float y t from M);cases q;exact kia_one PySem.W.kitx_float I.kIn True.intro e (λz=>nomatch z) h
 |@lst a r U=>
  cases (show u=Value.ref a from M)
  obtain⟨Y,Y,n,Y,k⟩:=(show bA X.prog X.w H s.heap a (.lst r)from I.hok a _ U);exact kia_one PySem.W.kitx_list I.kIn ⟨_,k,rr⟩ e (λz=>nomatch z) h
 |@frz a F r U=>
  cases (show u=Value.ref a from M)
  obtain⟨Y,Y,Y,n,Y,k⟩:=(show bA X.prog X.w H s.heap a (.frz F (.lst r))from I.hok a _ U);exact kia_one PySem.W.kitx_list I.kIn ⟨_,k,rr⟩ e (λz=>nomatch z) h
 |@tup a r U=>
  cases (show u=Value.ref a from M)
  obtain⟨Y,Y,Y,p⟩:=(show bA X.prog X.w H s.heap a (.tup r)from I.hok a _ U);obtain⟨o,k,D,Y⟩:=p;exact kia_one PySem.W.kitx_tuple I.kIn ⟨o,k,D⟩ e (λz=>nomatch z) h
 |@dK a P F U=>
  cases (show u=Value.ref a from M)
  obtain⟨Y,Y,Y,m,Y,p⟩:=(show bA X.prog X.w H s.heap a (.dK P F)from I.hok a _ U);obtain⟨o,f,d,k,D,Y⟩:=p;exact kia_one PySem.W.kitx_dict I.kIn ⟨o,k,D.1⟩ e (λz=>nomatch z) h
 |@dT a P U=>
  cases (show u=Value.ref a from M)
  obtain⟨Y,Y,r,Y,o,f,d,k,D,Y⟩:=(show bA X.prog X.w H s.heap a (.dT P)from I.hok a _ U);exact kia_one PySem.W.kitx_dict I.kIn ⟨o,k,D.1⟩ e (λz=>nomatch z) h
 |@ins a C v B U S g j R l=>
  cases (show u=Value.ref a from M)
  obtain⟨G,O,Y⟩:=(by
   refine cX λY g'=>?_;obtain⟨d,z,k,o,b,n,r,q⟩:=(show bA X.prog X.w H s.heap a _ from I.hok a _ U);apply g';exact⟨b,⟨o,n,k⟩,r,q,z,d⟩:∃b,Qe s.heap a v C b/\(∀f,mi (B.lookup f) (b f))/\PySem.Within b (B.map (·.1))/\B.length<=1000/\H v=some (.own a));obtain⟨L,J,Y⟩:=O.look;exact kia_one (PySem.W.kitx_own (S.get _) S.hd g j R l) I.kIn J e (λz=>nomatch z) h
end
structure eQ (k:Nat)(A:Around):Prop where
 hd:A.handled=none
 dp:A.depth+3*k+5<recursionLimit
 un:A.units+16*k+200<cLine
def eQ.mono (r:eQ k A)(h:j<=k):eQ j A:=⟨r.hd,by have:=r.dp;lia,by have:=r.un;lia⟩
def eQ.deeper (r:eQ (k+1) A)(a:Env):eQ k (A.deeper a):=
 ⟨r.hd,by have:=r.dp;show A.depth+1+3*k+5<_;lia,by have:=r.un;simp<;>lia⟩
def eQ.in1 (r:eQ (k+1) A):eQ k A.in1:=
 ⟨r.hd,by have:=r.dp;lia,by have:=r.un;lia⟩
def eQ.depth (r:eQ k A):A.depth<recursionLimit:=by have:=r.dp;lia
def V5:TA:=λz H Q=>Q [] H
def Qs (b:TE)(M:TA):TA:=λa H Q=>b a H λx O=>M a O λc k=>Q (x::c) k
section
variable {X:Cx}{e:Expr}{es:QD}{te:TE}{t:TA}{pos:Pos}
def gJ:PA X [] V5:=λz z z z H Q I h=>Calls.spliced_nil ⟨[],H,I,.nil,h⟩
def dI (o:PE X e te)(M:PA X es t)(q:dS e es X.env:=by rfl):PA X (e::es) (Qs te t):=by
 intro pos F s k H Q I h;rw[q];exact Calls.spliced_cons (bY (o _ s k H _ I h) λu r ⟨x,O,U,a,b⟩=>bY (M _ _ r k O _ U b) λK P ⟨w,z,c,d,D⟩=>⟨x::w,z,c,.cons a d,D⟩)
def V6 (t:TA):TE:=λb H Q=>t b H λa M=>a.length<=sizeLine/\∀p,M p=none->Q (.ref p) (upd M p (.tup a))
def aao (t:TA):TE:=λb H Q=>t b H λa M=>a.length<=sizeLine/\∀p,M p=none->Q (.ref p) (upd M p (.lst a))
def rP(h:PA X es t):PE X (.Tuple es U pos) (V6 t):=by
 intro w s a H Q I c;refine wpAny_Tuple_spliced (bY (h _ _ s a H _ I c) λk D ⟨F,O,M,r,z,q⟩=>⟨by rw[<-r.length];exact z,?_⟩);refine⟨.ref _,upd O _ _,M.laid (λb u=>vZ _) (vT _) ?_,rr,q _ (M.hok.fresh (vT _))⟩;exact⟨z,k,r,⟨_,vY _ rr,rr,_,rr⟩⟩
def RC (h:PA X es t):PE X (.List es pos) (aao t):=by
 intro w s a H Q I c;refine wpAny_List_spliced (bY (h _ _ s a H _ I c) λk D ⟨F,O,M,r,z,q⟩=>⟨by rw[<-r.length];exact z,?_⟩);refine⟨.ref _,upd O _ _,M.laid (λb u=>vZ _) (vT _) ?_,rr,q _ (M.hok.fresh (vT _))⟩;exact⟨z,k,0,r,vY _ rr⟩
end
abbrev Sp:=List V->Hp->VK->XK->Prop
abbrev Qt:=List Env->Hp->Shared->XK->QV
structure Env0 (P:Program)(w:World)(K:Frag)(mg:Str->Option Value)(base:Heap)(A:Around)(outer:List Env)(s:Shared)(H:Hp):Prop where
 frames:A.frames=some outer
 mod:Mod K mg base
 bs:∀b o,base.get? b=some o->s.heap.get? b=some o/\H b=none
 bsz:base.objs.size<=s.z
 funs:s.heap.FunFrames base outer
 frf:∀b∈uC outer,H b=none
 hok:ml P w H s.heap
 bare:AllBare s.gens
def CE (a:List Env)(P:Program)(w:World)(H:Hp)(s:Shared)(Q:VK)(u:Value)(b:Shared):Prop:=
 ∃v c,b.os=s.os/\AllBare b.gens/\Un (uC a) [] H c s.heap b.heap/\ml P w c b.heap/\aI v u/\Q v c
def CR (c:Qt)(a:List Env)(P:Program)(w:World)(H:Hp)(s:Shared)(Q:VK)(E:XK)(r:Result)(b:Shared):Prop:=
 match r with
 |.ok (.ret u)=>CE a P w H s Q u b
 |.ok _=>False
 |.error e=>c a H s E e b
structure u7 (P:Program)(w:World)(K:Frag)(mg:Str->Option Value)(base:Heap)(CX:Qt)(k:Nat)(f:Addr)(fd:FuncData)(ps:List Str)(sp:Sp):Prop where
 len:∀vs H Q E,sp vs H Q E->vs.length=ps.length
 run:∀(A:Around)(outer:List Env)(s:Shared)(H:Hp)(args:Args)(us:List Value)(vs:List V)(Q:VK)(E:XK),eQ k A->Env0 P w K mg base A outer s H->BindsTo s fd args (ps.zip us)->bd vs us->sp vs H Q E ->
  codeAny (model P w) A (.call (.ref f) args) (CR CX outer P w H s Q E) s
section
variable {X:Cx}{ag:AO}{σ:St}{H:Hp}{s s':Shared}
def Inv.env0 (I:Inv X ag σ H s):Env0 X.prog X.w X.K X.mg X.base X.A X.stack s H:=
 ⟨I.ok.frames,I.ok.mod,I.bs,vR I.ok.bsz I.sz,I.stack,I.stkFree,I.hok,I.bare⟩
def Inv.after (I:Inv X ag σ H s)(h:CE X.stack X.prog X.w H s Q u s'):EP X ag σ Q u s':=by
 obtain⟨v,k,os,a,o,c,r,q⟩:=h;obtain⟨D,g,d,t,M⟩:=s';obtain rfl:M=s.os:=os;exact⟨v,k,I.call o c a (λb z=>absurd z H9),r,q⟩
end
def V7 (a:Sp)(M:List V)(E:XK)(t:TA):TE:=λb H Q=>t b H λc O=>a (c++M) O Q E
def qk (K:Frag)(k:FuncData)(b:LS)(c:LU):Prop:=
 ∀(s:Shared)(a:LU),K.In s.heap->(a++c).length=b.length->BindsTo s k ⟨a,[]⟩ (b.zip (a++c))
def qk.all {K:Frag}{c:FuncData}{b:LS}(h:∀a:LU,a.length=b.length->bindArgs c ⟨a,[]⟩=pure (b.zip a)):qk K c b []:=λs a z k=>by
 rw[uQ]at k |-;exact .of_eq (h a k)
def BE (b:Qt)(X:Cx)(E:XK):Prop:=∀(c:AO)(k:St)(H:Hp)(s:Shared)(e:Value)(a:Shared),Inv X c k H s->b X.stack H s E e a->X.xe e a
section
variable {X:Cx}{CX:Qt}{k:Nat}{f C:Addr}{fd:FuncData}{ps:LS}{sp:Sp}{UN:List V}{ds:LU}{E:XK}{x m:Str}{p pos cn:Pos}{e o:Expr}{es:QD}{ta:TE}{t:TA}
def RD {q:AO}{c:St}{H:Hp}{s:Shared}{Q:VK}{b:LU}{z:List V}(F:u7 X.prog X.w X.K X.mg X.base CX k f fd ps sp)(O:eQ k X.A)(D:qk X.K fd ps ds)(P:bd UN ds)(hx:BE CX X E)
  (I:Inv X q c H s) (r:bd z b) (h:sp (z++UN) H Q E):wq X (call (.ref f) b) (EP X q c Q) X.xe s:=by
 have M:=r.append P;have R:(b++ds).length=ps.length:=by rw[<-M.length];exact F.len _ _ _ _ h
 refine wpAny_call (codeAny_mono (F.run _ _ s H _ _ _ Q E O  ⟨I.ok.frames,I.ok.mod,I.bs,vR I.ok.bsz I.sz,I.stack,I.stkFree,I.hok,I.bare⟩ (D s b I.kIn R) M h) λr S a=>?_);cases r with
 |error e=>exact hx _ c H s e S I a
 |ok W=>
  cases W with
  |ret u=>exact I.after a
  |next=>exact False.elim a
  |brk=>exact False.elim a
  |cont=>exact False.elim a
def Na (F:u7 X.prog X.w X.K X.mg X.base CX k f fd ps sp)(a:eQ k X.A)(b:Gl X x)(z:X.mg x=some (.ref f))(D:PySem.W.keepIn X.K (.ref f)=true)(P:qk X.K fd ps ds)(R:bd UN ds)(hx:BE CX X E)
  (S:PA X (e::es) t) (M:bB x:=by decide) (Z:dS e es X.env:=by rfl) (O:k7 pos es X.env:=by rfl):
  PE X (.Call (.Name x p) (e::es) [] pos) (V7 sp UN E t):=by
 intro g s d H Q I h;refine wpAny_Call_Name_kw (xy I b z ?_ M);refine PySem.W.callWith_K I.ok.mod.kin D (bY (S _ _ s d H _ I h) λi j ⟨l,c,U,r,q⟩=>⟨U.kIn,?_⟩) Z O;exact RD F a P R hx U r q
end
structure FnScope (N P:List Str)(sc:Scope):Prop where
 kind:sc.kind=.function
 co:sc.isCoroutine=false
 gen:sc.isGenerator=false
 nd:N.Nodup
 pre:N.take P.length=P
 par:∀x∈P,sc.names.lookup x=some .local\/sc.names.lookup x=some .cell
 nofree:∀y∈sc.names,y.2≠.free
theorem vp {kindOf:Str->Option NameKind}{x:Str}:∀ {a:List (Str×Value)}{m:SV},(∀v,(x,v)∉a)->bindL kindOf a m x=m x
 |[],_,_=>rr
 | (n,v)::r,m,h=>by
  unfold bindL;rw[vp λw b=>h w (mZ _ b)];split
  .grind
  .rfl
theorem vq {kindOf:Str->Option NameKind}{x:Str}:∀ {a:List (Str×Value)}{m:SV},(∀v,(x,v)∉a)->bindC kindOf a m x=m x
 |[],_,_=>rr
 | (n,v)::r,m,h=>by
  unfold bindC;rw[vq λw b=>h w (mZ _ b)];split
  .rfl
  grind
theorem vt {kindOf:Str->Option NameKind}{x:Str}{v:Value}:∀ {P:LS}{a:LU}{i:Nat}{m:SV},P.Nodup->P[i]? = some x->a[i]? = some v->kindOf x=some .local ->
  bindL kindOf (P.zip a) m x=some v
 |[],_,_,_,_,h,_,_=>by simp at h
 |_::_,[],_,_,_,_,h,_=>by simp at h
 |p::P,w::a,0,m,k,b,c,o=>by
  simp at b c;subst b;subst c;show bindL _ ((p,w)::P.zip a) m p=_;unfold bindL;rw[vp λv q=>(nodup_cons.mp k).1 (of_mem_zip q).1,if_pos o];simp
 |p::P,w::a,i+1,m,k,b,c,o=>by
  unfold bindL;exact vt (nodup_cons.mp k).2 (by simpa using b) (by simpa using c) o
theorem vv {kindOf:Str->Option NameKind}{x:Str}{v:Value}:∀ {P:LS}{a:LU}{i:Nat}{m:SV},P.Nodup->P[i]? = some x->a[i]? = some v->kindOf x≠some .local ->
  bindC kindOf (P.zip a) m x=some v
 |[],_,_,_,_,h,_,_=>by simp at h
 |_::_,[],_,_,_,_,h,_=>by simp at h
 |p::P,w::a,0,m,k,b,c,o=>by
  simp at b c;subst b;subst c;show bindC _ ((p,w)::P.zip a) m p=_;unfold bindC;rw[vq λv q=>(nodup_cons.mp k).1 (of_mem_zip q).1,if_neg o];simp
 |p::P,w::a,i+1,m,k,b,c,o=>by
  unfold bindC;exact vv (nodup_cons.mp k).2 (by simpa using b) (by simpa using c) o
noncomputable def mq (N:LS)(a:List V):St:=a.map some++List.replicate (N.length - a.length) none
noncomputable def rQ (k:Qt)(P:Program)(w:World)(K:Frag)(mg:SV)(base:Heap)(N:LS)(b:Str)(a:Scope)(f:Addr)(c:Value)(A:Around)(outer:List Env)(s:Shared)(H:Hp)(E:XK):Cx where
 prog:=P
 w:=w
 K:=K
 mg:=mg
 base:=base
 A:=A.deeper (envOfC b a s.z f c)
 N:=N
 s₀:=s
 H₀:=H
 env:=envOfC b a s.z f c
 outer:=outer
 stack:=envOfC b a s.z f c::outer
 ex:=[]
 calm:=true
 fn:=λy=>true
 pn:=[]
 xe:=λe o=>wpAny (model P w) (A.deeper (envOfC b a s.z f c)) (leaving (envOfC b a s.z f c) e) (λy M=>k outer H s E e M) (λO M=>k outer H s E O M) o
def rR {a:Scope}{n:Nat}{x:Str}(h:a.names.lookup x=some .cell):∃c,(cellsFrom n a.names []).lookup x=some c:=by
 exact uU (PySem.W.cellsFrom_some _ n [] (.inl h))
def Gg {G:Qt}{P:Program}{w:World}{K:Frag}{t:SV}{R:Heap}{N W:LS}{F:Str}{o:Scope}{f:Addr}{l:Value}{A:Around}{D:List Env}{s I:Shared}{H:Hp}{E:XK}{B:LU}{Z:List V}
  (S:FnScope N W o) (Q:A.handled=none) (M:Env0 P w K t R A D s H) (Y:Z.length=W.length) (r:bd Z B)
  (x:InCallC s s.z (bindL (envOfC F o s.z f l).kindOf (W.zip B) λn=>none) (cellsFrom (s.z+1) o.names []) (bindC (envOfC F o s.z f l).kindOf (W.zip B) λn=>none) I):
  Inv (rQ G P w K t R N F o f l A D s H E) [] (mq N Z) H I:=by
 have d:W.length<=N.length:=by have:=congrArg List.length S.pre;grind
 obtain⟨m,tk,rfl,J⟩:=x.done;have O:∀b:Addr,b∉(rQ G P w K t R N F o f l A D s H E).ex:=λb z=>absurd (show b∈([]:List Addr)from z) H9;refine⟨⟨M.mod,S.kind,rr,rr,vT _,λy z c m X=>?_,λy g=>?_,λy c n h=>?_,λn=>Q,Around.frames_deeper M.frames,.inr ⟨rr,rr⟩,λb z=>absurd z (O b),M.bs,M.bsz,λb n n=>O b,λb z=>absurd z (O b),M.funs,M.frf⟩,
  rr,M.bare,Un.kept J,⟨_,x.toInCall.ns,λi y v m X h3=>?_⟩,λy c h=>⟨_,x.cell y c h⟩,M.hok.fresh (vT _),λy c h=>?_,λp j=>absurd (show p∈([]:AO)from j) H9,M.hok.kept J,?_⟩
 .exact name_of_addr x.apart (PySem.mem_of_lookup m) (PySem.mem_of_lookup X)
 .rcases g with g|g
  .exact uU (PySem.W.cellsFrom_some _ (s.z + 1) [] (.inl g))
  .exact absurd rr (S.nofree _ (PySem.mem_of_lookup g))
 .exact le_of_lt (x.above y c (PySem.mem_of_lookup h))
 .have C:i<Z.length:=by
   unfold mq at X;by_cases C:i<Z.length
   .exact C
   .rw[getElem?_append_right (by simpa using C)]at X;rw[List.getElem?_replicate]at X;split at X<;>cases X
  have T:Z[i]? = some v:=by
   simp_all[mq,getElem?_append_left]
  obtain⟨u,L,a⟩:=r.get T;have j:W[i]? = some y:=by
   rw[<-S.pre,List.getElem?_take_of_lt N9];exact m
  have U:W.Nodup:=by rw[<-S.pre];exact S.nd.sublist (take_sublist _ _)
  refine⟨u,a,?_⟩;rcases S.par y (vL j)with k|k
  .exact .inl ⟨k,vt U j L k⟩
  .obtain⟨c,e⟩:=(by
   exact uU (PySem.W.cellsFrom_some _ (s.z+1) [] (.inl k)));refine .inr ⟨.inl k,c,e,?_⟩;have q:=x.cell y c e;rw[vv U j L (by show o.names.lookup y≠_;rw[k];decide)]at q;exact q
 .exact M.hok.fresh (le_of_lt (x.above y c (PySem.mem_of_lookup h)))
 .unfold mq;show _=N.length;simp_all
def Qu {CX:Qt}{P:Program}{w:World}{K:Frag}{mg:SV}{X:Heap}{k:Nat}{f:Addr}{B R:Str}{Z:Arguments}{M:List Stmt}{D:Scope}{h kV Y pm G ct oc:Value}{an od:Option Addr}
  {pv:Array (Option Value)}{N ps:LS}{sp:Sp}(l:K.lookup f=some ⟨oc,od,.func (fnOf B R Z M D h kV Y pm an G ct),pv⟩) (m:PySem.W.codeIn K G R=true) (S:FnScope N ps D)
  (len:∀L H Q E,sp L H Q E->L.length=ps.length)
  (U:∀(A:Around)(F:List Env)(s:Shared)(H:Hp)(L:List V)(Q:VK)(E:XK),eQ k (A.deeper (envOfC R D s.z f G))->sp L H Q E ->
   ∃t,vn (rQ CX P w K mg X N R D f G A F s H E) M t/\t { nx:=λy C=>Q .non C,rt:=Q } (mq N L) H):
  u7 P w K mg X CX (k+1) f (fnOf B R Z M D h kV Y pm an G ct) ps sp:=by
 refine⟨len,λA F s H args us L Q E c a hb r i=>?_⟩;have hl:=len _ _ _ _ i;have j:=a.mod.kin.keeps λb o e=>(a.bs b o e).1;have d:=a.mod.nolimit.keeps λb o e=>(a.bs b o e).1;refine codeAny_call_function c.depth (j _ _ l) rr S.co S.gen rr (PySem.W.codeRec_of j m) (hb _ _ _ _ ?_);refine wpAny_newFunctionEnv_cells S.kind (λ⟨n,v⟩ hy=>by
  rcases S.par n (of_mem_zip hy).1 with q|q
  .exact .inl q
  .exact .inr ⟨q,PySem.W.cellsFrom_some _ _ _ (.inl q)⟩) λenv he s1 x=>?_;subst he;refine⟨d.keeps x.toInCall.keep,codeAny_func ?_⟩;obtain⟨t,z,hq⟩:=U A F s H L Q E (c.deeper _) i;refine wpAny_mono (z [] s1 _ H _ (Gg S c.hd a hl r x) hq) (λfl s' T=>?_) λe s' T=>T;have dF:∀ {O:St}{C:Hp}{v:V}{u:Value},Inv (rQ CX P w K mg X N R D f G A F s H E) [] O C s'->aI v u->Q v C->CE F P w H s Q u s':=
  λ{O C v u} J g q=>⟨v,C,J.os,J.bare,J.base,J.hok,g,q⟩
 cases fl with
 |ret u=>
  obtain⟨v,O,C,J,g,q⟩:=T;exact dF J g q
 |next=>
  obtain⟨O,C,J,q⟩:=T;exact dF (v:=V.non) J rr q
 |brk=>
  obtain⟨y,y,y,q⟩:=T;simp_all
 |cont=>
  obtain⟨y,y,y,q⟩:=T;simp_all
section
variable {X:Cx}{x:Str}{p pos:Pos}{e:Expr}{es:QD}{t:TA}{id T:String}{r:List V->Hp->VK->Prop}
def tCB (r:List V->Hp->VK->Prop)(t:TA):TE:=λa H Q=>t a H λb M=>r b M Q
def rS (o:bH X (.builtin id) r)(U:Gl X x)(q:X.mg x=none)(w:bootBuiltins x=some (.builtin id))(z:PA X (e::es) t)(D:x ≠ "__name__":=by decide)(M:bB x:=by decide)
  (F:dS e es X.env:=by rfl) (O:k7 pos es X.env:=by rfl):PE X (.Call (.Name x p) (e::es) [] pos) (tCB r t):=by
 intro S s k H Q I h;refine wpAny_Call_Name_kw (jb I U q w ?_ D M);exact PyProof.Rows.callWith_builtin1 (bY (z _ _ s k H _ I h) λK P ⟨R,a,b,c,d⟩=>o _ P k a R K Q b c d) F O
def p0 (o:bH X (.type T) r)(U:Gl X x)(q:X.mg x=none)(w:bootBuiltins x=some (.type T))(z:PA X (e::es) t)(D:x ≠ "__name__":=by decide)(M:bB x:=by decide)
  (he:dS e es X.env:=by rfl) (O:k7 pos es X.env:=by rfl):PE X (.Call (.Name x p) (e::es) [] pos) (tCB r t):=by
 intro R s k H Q I h;exact wpAny_Call_Name_kw (jb I U q w (PyProof.Rows.callWith_type1 (bY (z _ _ s k H _ I h) λF K ⟨P,a,b,c,d⟩=>o _ K k a P F Q b c d) he O) D M)
end
end L2
namespace HT
open PySem PyProof.Rows
section
open PySem.SeqAt
open PySem.AutoSeq1 (wpAny_loadPart')
open PySem.MeetsSeq PySem.MeetsSeq2 PySem.MeetsSeq3
end
section
variable {prog:Program}{w:World}{A:Around}{E:QV}{s:Shared}
def Nb (f:IsTup s.heap t i.toArray)(P:IsTup s.heap b h.toArray)(o:i≠[])
  (R:h=[]->Q (.ref t) s) (S:h≠[]->Q (.ref s.z) { s with heap:=s.heap.push { cls:=.type "tuple",data:=.seq (i++h).toArray } })
  (V:i.length+h.length<=sizeLine):wpAny (model prog w) A (binaryOp .Add (.ref t) (.ref b)) Q E s:=by
 obtain⟨⟨l,q,j,r⟩,a,D,n,F⟩:=id f;obtain⟨⟨g,O,data2,U⟩,M,c,K,d⟩:=id P;simp only at D F c d;subst D F c d;have e:i.toArray++h.toArray=(i++h).toArray:=H9
 by_cases k:h=[]
 .exact concat_meets ⟨_,a,rr⟩ ⟨_,M,rr⟩ noFill_tuple_add seq_tuple_add slot_tuple_add entry_tuple_add (args_tuple_add_2 _ _)
   (tuple_addW1 t b i.toArray h.toArray n K q O r U (by simpa using o) (by simp[k])) ⟨a,M,R k⟩
 .refine concat_meets ⟨_,a,rr⟩ ⟨_,M,rr⟩ noFill_tuple_add seq_tuple_add slot_tuple_add entry_tuple_add (args_tuple_add_2 _ _)
   (tuple_addW2 t b i.toArray h.toArray n K q O r U (by simpa using o) (by simpa using k) (by omega)) ⟨a,M,?_⟩
  rw[e];exact S k
noncomputable def dP (n d:Nat):OI->Nat
 |none=>d
 |some v=>if v<0 then (v+(n:Int)).toNat else min v.toNat n
def Ix (n d:Nat):dP n d none=d:=rfl
def Nc (n d k:Nat):dP n d (some k)=min k n:=by
 rfl
def RE n d(b:d<=n)o:dP n d o<=n:=by
 cases o with
 |none=>exact b
 |some v=>
  show(if v<0 then (v+n).toNat else min _ n)<=n;by_cases a:v<0
  .rw[if_pos a];lia
  .rw[if_neg a];exact Nat.min_le_right _ _
def Dg v(n d:Nat):(if v<0 then max (v+(n:Int)) 0 else min v n)=(dP n d (some v):Nat):=by
 show(if v<0 then max _ 0 else min v n)=(((if v<0 then (v+n).toNat else min _ n):Nat):Int);grind
def BF (a b:OI)(n:Nat):Builtin.Slice.sliceAdjust a b 1 n=((dP n 0 a:Int),(dP n n b:Int)):=by
 unfold Builtin.Slice.sliceAdjust;simp only[N9];refine Prod.ext ?_ ?_
 .cases a with
  |none=>rfl
  |some v=>exact Dg v n 0
 .cases b with
  |none=>rfl
  |some v=>exact Dg v n n
def BG (i j:Nat):Builtin.Slice.slicePlaces i j 1=j - i:=by
 unfold Builtin.Slice.slicePlaces;simp<;>lia
def rT (p:IsPart v o)(h:Q o s):wpAny (model prog w) A (Builtin.Slice.slicePartIndex v) Q E s:=by
 cases p with
 |none=>exact slicePart_none h
 |int i t=>exact slicePart_int h
def jn {q:Addr}{o U:Value}{c k:OI}{n:Nat}{Q:Int×Int×Nat->Shared->Prop}(r:s.heap.IsSliceOf q o U .none)(z:IsPart o c)(a:IsPart U k)
  (h:Q (((dP n 0 c:Nat):Int),1,dP n n k - dP n 0 c) s):wpAny (model prog w) A (Builtin.Slice.sliceApplied (.ref q) (pure (n:Int))) Q E s:=by
 obtain⟨os,M,b,O⟩:=id r;refine wX (wX (wpAny_field M O (x:=o) rr (wX (wpAny_field M O (x:=U) rr (wX (wpAny_field M O (x:=.none) rr (wY ?_)))))));refine wX (slicePart_none ?_);rw[if_neg I9];refine wX (rT z (wX (rT a (wX (wY ?_)))));show wpAny _ _ (match Builtin.Slice.sliceAdjust c k 1 (n:Int) with|(c,k)=>pure (c,(1:Int),Builtin.Slice.slicePlaces c k 1)) _ _ s;rw[BF c k n];show wpAny _ _ (pure _) _ _ s;rw[BG];exact wY h
def Iy (a:AV)(i k:Nat):((List.range k).filterMap λ(m:Nat)=>a[((i:Int)+m*1).toNat]?).toArray=((a.toList.drop i).take k).toArray:=by
 have e:(λ(m:Nat)=>a[((i:Int)+m*1).toNat]?)=λm=>a[i+m]?:=by
  funext m;have:(i+(m:Int)*1).toNat=i+m:=N9
  rw[this]
 rw[e];have:=pick_run a i k;have b:((λx=>a[x]?) ∘ λx=>i+x)=λm=>a[i+m]?:=rr;simp_all
def nB {t r:Addr}{k:AV}{F c:Value}{o q:OI}{Q:QV}(O:IsTup s.heap t k)(K:s.heap.IsSliceOf r F c .none)(P:IsPart F o)(d:IsPart c q)
  (R:¬(dP k.size 0 o=0/\dP k.size k.size q=k.size))
  (h:Q (.ref s.z) { s with heap:=s.heap.push { cls:=.type "tuple",data:=.seq ((k.toList.drop (dP k.size 0 o)).take (dP k.size k.size q - dP k.size 0 o)).toArray } })
  (D:k.size<=sizeLine):wpAny (model prog w) A (getItem (.ref t) (.ref r)) Q E s:=by
 have M:sizeOk (.seq ((k.toList.drop (dP k.size 0 o)).take (dP k.size k.size q - dP k.size 0 o)).toArray):=by
  exact Nat.le_trans (((k.toList.drop _).take_sublist _).trans (k.toList.drop_sublist _)).length_le D
 have S:dP k.size k.size q<=k.size:=RE _ _ (vT _) q
 obtain⟨os,U,e,f⟩:=id K
 have a:s.TypeIs (.ref r) "slice":=⟨os,U,e⟩
 unfold getItem
 try with_reducible refine wpAny_holding ?_
 first|refine wX (wY ?_)|skip
 refine wX (wpAny_sequenceKey O.typeIs q9 ?_)
 refine wX (wpAny_callSpecial?_slot (name:=Str.ofString "__getitem__") O.typeIs PyProof.Rows.slot_tuple_getitem
  (wpAny_call_entry PyProof.Rows.slot_tuple_getitem O.typeIs entry_tuple_getitem ?_ (args_tuple_getitem _ _)))
 show wpAny _ _ (Builtin.Tuple.tupleItemsOf (.ref t)>>=_) _ _ s
 refine wX (tupleItemsOf_ O ?_)
 refine wX (wpAny_typeOf a ?_)
 rw[if_pos q9]
 refine wX (jn K P d ?_)
 show wpAny _ _ (if(((dP k.size 0 o:Nat):Int) == 0 && (1:Int) == 1 && (dP k.size k.size q - dP k.size 0 o) == k.size)=true then _ else _) _ _ s
 rw[if_neg (by
  simp_all),Iy]
 first
  |exact wX (m:=Builtin.Tuple.tupleExact _) (wpAny_newObj_type (wY ⟨_,rr,wY h⟩) M)
  |exact wX (m:=Builtin.Tuple.tupleExact _) (wpAny_newObj_type (wX (wY (wY ⟨_,rr,wY h⟩))) M)
  |exact wX (wX (m:=Builtin.Tuple.tupleExact _) (wpAny_newObj_type (wY (wY ⟨_,rr,wY h⟩)) M))
  |exact wX (wX (m:=Builtin.Tuple.tupleExact _) (wpAny_newObj_type (wY ⟨_,rr,wY h⟩) M))
end
end HT
namespace L2
open PySem PySem.Spec PyProof.Rows
abbrev TO:=St->Hp->(OI->Hp->Prop)->Prop
def PO (X:Cx)(e:Option Expr)(t:TO):Prop:=
 ∀(b:AO)(s:Shared)(a:St)(H:Hp)(Q:OI->Hp->Prop),Inv X b a H s->t a H Q ->
  wq X (evalPart e X.env) (λu k=>∃o c,Inv X b a c k/\IsPart u o/\Q o c) X.xe s
def Nd:TO:=λz H Q=>Q none H
def V8 (t:TE):TO:=λa H Q=>t a H λx M=>∃i,x=.int i/\Q (some i) M
section
variable {X:Cx}{e:Expr}{te:TE}{lo hi:Option Expr}{tl th:TO}{pos p2:Pos}
def Nf:PO X none Nd:=by
 intro a s b H Q I h;exact wY ⟨none,H,I,.none,h⟩
def Ng (h:PE X e te):PO X (some e) (V8 te):=by
 intro b s c H Q I k;refine bY (h b s c H _ I k) λu o ⟨x,M,O,U,a⟩=>?_;obtain⟨i,rfl,q⟩:=a;obtain⟨t,rfl⟩:=U;exact⟨some i,M,O,.int i t,q⟩
def HW (X:Cx)(r:V->OI->OI->Hp->VK->Prop):Prop:=
 ∀(a:AO)(s:Shared)(b:St)(H:Hp)(x:V)(v c M:Value)(lo hi:OI)(k:Addr)(Q:VK),Inv X a b H s->aI x v->s.heap.IsSliceOf k c M .none->IsPart c lo->IsPart M hi->r x lo hi H Q ->
  ∃T id,typeLookup (.type T) "__getitem__" = pure (some (.builtin id))/\s.TypeIs v T/\wq X (getItem v (.ref k)) (EP X a b Q) X.xe s
def HW.or (h:HW X r)(z:HW X d):HW X (λx lo hi H Q=>r x lo hi H Q\/d x lo hi H Q):=by
 intro a s b H x v c M lo hi k Q I O o w U q;rcases q with q|q
 .exact h a s b H x v c M lo hi k Q I O o w U q
 .exact z a s b H x v c M lo hi k Q I O o w U q
def tSl (r:V->OI->OI->Hp->VK->Prop)(te:TE)(tl th:TO):TE:=λa H Q=>te a H λx M=>tl a M λl b=>th a b λu O=>r x l u O Q
def Iz (a:HW X r)(K:PE X e te)(P:PO X lo tl)(R:PO X hi th):PE X (.Subscript e (.Slice lo hi none p2) pos) (tSl r te tl th):=by
 intro w s D H Q I h;refine Subscript_ (bY (K w s D H _ I h) λv S ⟨x,c,d,f,g⟩=>wpAny_Slice (bY (P w S D c _ d g) λF V ⟨l,W,i,Z,y⟩=>bY (R w V D W _ i y) λO M ⟨u,U,j,k,m⟩=>?_));refine wY ?_;obtain⟨T,id,o,p,t⟩:=a w _ D U x v F O l u M.z Q (j.kept (t':=M.toks) λb A q=>vZ _ q) f (Heap.IsSliceOf.new ..) Z k m;exact tail_any  p o t (by with_unfolding_all rfl)
def uE (a:List V)(lo hi:OI):List V:=(a.drop (HT.dP a.length 0 lo)).take (HT.dP a.length a.length hi - HT.dP a.length 0 lo)
def qm a lo hi:(uE a lo hi).length<=a.length:=by
 unfold uE;rw[length_take,length_drop];lia
def aap (K:Frag):V->OI->OI->Hp->VK->Prop:=λx lo hi H Q=>∃a b,x=.ref a/\iH K H a b /\
 ¬(HT.dP b.length 0 lo=0/\HT.dP b.length b.length hi=b.length)/\∀p,H p=none->Q (.ref p) (upd H p (.tup (uE b lo hi)))
def V9 (K:Frag):R2:=λx y H Q=>∃a b k c,x=.ref a/\y=.ref b/\iH K H a k/\iH K H b c/\k≠[]/\k.length+c.length<=sizeLine /\
 (c=[]->Q (.ref a) H)/\(c≠[]->∀p,H p=none->Q (.ref p) (upd H p (.tup (k++c))))
def bd.nil_iff (r:bd d f):f=[]↔d=[]:=by
 cases r with
 |nil=>simp
 |cons _ _=>simp
end
noncomputable def HX (n:Nat)(i:Int):Option Nat:=if 0<=i then (if i<n then some i.toNat else none)else if -(n:Int)<=i then some (i+n).toNat else none
def mr {a:Type}(b:List a)(i:Int):Option a:=(HX b.length i).bind λj=>b[j]?
def Dh (h:HX n i=some j):seqIndex? i n=some j/\j<n/\-(n:Int)<=i/\i<n:=by
 unfold HX at h;by_cases b:0<=i
 .rw[if_pos b]at h;by_cases a:i<n
  .rw[if_pos a]at h;exact⟨by rw[seqIndex_of b a,vK h],N9,N9,a⟩
  simp_all
 .rw[if_neg b]at h;by_cases a : -(n:Int)<=i
  .rw[if_pos a]at h;exact⟨by rw[seqIndex_neg N9 a,vK h],N9,a,N9⟩
  simp_all
def x0 {b:Type}{a:List b}{v:b}(h:mr a i=some v):∃j,seqIndex? i a.length=some j/\a[j]? = some v/\j<a.length/\-a.length<=i/\i<a.length:=by
 unfold mr at h;cases e:HX _ i with
 |none=>rw[e]at h;cases h
 |some j=>
  rw[e]at h;obtain⟨c,k,o,q⟩:=Dh e;exact⟨j,c,h,k,o,q⟩
def Ni {b:Type}{a:List b}{j:Nat}{v:b}(h:a[j]? = some v):mr a j=some v:=by
 have c:=(vV h).1;simp_all[HX,mr]
def nD (b:Expr):Prop:=∀o i,subscripted b false o i=operate [o,i] (getItem o i)
def RG (X:Cx)(r:R2):Prop:=
 ∀(O M:Expr)(a:AO)(s:Shared)(b:St)(H:Hp)(x y:V)(v u:Value)(Q:VK),Inv X a b H s->aI x v->aI y u->r x y H Q ->
  subscripted M false v u=operate [v,u] (getItem v u)->wq X (subscriptTail O M v u) (EP X a b Q) X.xe s
def VA (X:Cx)(id:String)(r:V->List V->Hp->VK->Prop):Prop:=
 ∀(a:AO)(s:Shared)(b:St)(H:Hp)(x:V)(c:List V)(v:Value)(k:LU)(Q:VK),Inv X a b H s->aI x v->bd c k->r x c H Q ->
  wq X (call (.builtin id) (v::k)) (EP X a b Q) X.xe s
section
variable {X:Cx}{a b:Expr}{ta tb:TE}{pos:Pos}
def IA (M:RG X r)(k:PE X a ta)(o:PE X b tb)(w:nD b):PE X (.Subscript a b pos) (Z9 r ta tb):=λz s D H Q I h=>Subscript_ (R3 k o I h λv u F x y K O U c q=>M a b z F D K x y v u Q O U c q (w _ _))
def aaq (K:Frag):R2:=λx y H Q=>∃p c i v,x=.ref p/\y=.int i/\fW K H p c/\mr c i=some v/\Q v H
def aar (K:Frag):R2:=λx y H Q=>∃p c i v,x=.ref p/\y=.int i/\iH K H p c/\mr c i=some v/\Q v H
def aas:R2:=λx y H Q=>∃z i c,x=.str z/\y=.int i/\z.length<=sizeLine/\mr z.cps.toList i=some c/\Q (.str ⟨#[c]⟩) H
def Nj:RG X (aaq X.K):=by
 intro M O P s R H x y v u Q I d e h S;obtain⟨p,B,i,z,rfl,rfl,Z,f,q⟩:=h;cases d
 obtain⟨t,rfl⟩:=e;refine I.lisE Z λo r D C=>?_;obtain⟨j,k,g,E,l,m⟩:=x0 f;obtain⟨w,c,U⟩:=r.get g;have n:=r.length;have G:=pz;have V:EP X P R Q w s:=⟨z,H,I,U,q⟩;by_cases W:0<=i
 .have F:i.toNat=j:=by
   rw[seqIndex_of W m]at k;exact vK k
  exact item_listR D.isList W N9 (by rw[F];simpa using c) V S
 .have F:(i+(o.toArray.size:Int)).toNat=j:=by
   rw[seqIndex_neg N9 l]at k;rw[vH,<-n];exact vK k
  exact subscriptTail_builtinR (x:=w) D.isList.typeIs slot_list_getitem.lookup
   (wpAny_getItem_list_neg  D.isList N9 (by rw[vH]<;>simp_all) N9 (by rw[F];simpa using c) ⟨rr,V⟩) S
def IB:RG X (aar X.K):=by
 intro M O k s o H x y v u Q I c d h F;obtain⟨p,f,i,z,rfl,rfl,P,R,q⟩:=h;cases c
 obtain⟨t,rfl⟩:=d;refine I.tupE P λS r D g=>?_;obtain⟨j,l,V,m,n,A⟩:=x0 R;obtain⟨w,e,U⟩:=r.get V;have B:=r.length;have C:=pz;exact subscriptTail_builtinR (x:=w) D.typeIs slot_tuple_getitem.lookup
  (getItem_tuple (j:=j)  D N9 N9 (by simp_all) (by simpa using e) ⟨rr,⟨z,H,I,U,q⟩⟩) F
def BH:RG X aas:=by
 intro M O P s R H x y v u Q I U d h o;obtain⟨z,i,c,rfl,rfl,S,r,q⟩:=h;obtain⟨t,rfl⟩:=U;obtain⟨V,rfl⟩:=d;obtain⟨j,k,w,W,D,F⟩:=x0 r;have K:z.cps.toList.length=z.length:=by rfl
 rw[K]at k D F;have Z:=pz;exact tail_any (typeIs_str s z t) slot_str_getitem.lookup (getItem_str (c:=c) (by
  lia) (by rw[k];simpa using w) ⟨.str ⟨#[c]⟩,H,I.tok _,⟨_,rr⟩,q⟩) o
def Inv.lst (I:Inv X f g H s)(h:H p=some (.lst d)):
  ∃(c:LU)(n:Nat),bd d c/\s.heap.get? p=some { cls:=.type "list",data:=.seq c.toArray n }/\d.length<=sizeLine:=by
 obtain⟨z,c,n,r,e⟩:=I.hok p _ h;exact⟨c,n,r,e,z⟩
def Inv.lstUpd {w:AO}{z:St}{H:Hp}{s:Shared}{p:Addr}{F o:List V}{k c:LU}{n M:Nat}{f:Obj->Obj}(I:Inv X w z H s)(h:H p=some (.lst F))
  (O:s.heap.get? p=some { cls:=.type "list",data:=.seq k.toArray n }) (D:f { cls:=.type "list",data:=.seq k.toArray n }={ cls:=.type "list",data:=.seq c.toArray M }) (r:bd o c) (K:o.length<=sizeLine) (t:Nat):
  Inv X w z (upd H p (.lst o)) { s with heap:=s.heap.update p f,toks:=t }:=by
 have e:(s.heap.update p f).get? p=some { cls:=.type "list",data:=.seq c.toArray M }:=by
  rw[Heap.get?_update_self f O (by rw[D]<;>rfl),D]
 refine I.write (x:=p) (e:=p) (by rw[h];trivial) (.inl rr) (λb u P q=>(Heap.get?_update_other _ _ (Ne.symm P)).trans q) ⟨_,e⟩ ?_;exact⟨K,c,M,r,e⟩
def VB:V->V->V->Hp->(Hp->Prop)->Prop:=λo i v H Q=>∃p c k j,o=.ref p/\i=.int k/\H p=some (.lst c)/\HX c.length k=some j/\Q (upd H p (.lst (c.set j v)))
def IC:Vp X VB:=by
 intro V s Z H o i v e m u Q I U c d h;obtain⟨p,f,k,j,rfl,rfl,K,g,q⟩:=h;cases U
 obtain⟨t,rfl⟩:=c;obtain⟨w,n,r,M,l⟩:=I.lst K;obtain⟨z,x,P,R⟩:=Dh g;have D:=r.length;have y:=pz;have O :=
  I.lstUpd K M ((by
   simp[Obj.mapSeq]:Obj.mapSeq (·.setIfInBounds j u) { cls:=.type "list",data:=.seq w.toArray n }={ cls:=.type "list",data:=.seq (w.set j u).toArray n })) (r.set d j) (by rw[length_set];exact l) s.toks
 by_cases S:0<=k
 .have F:k.toNat=j:=by
   rw[seqIndex_of S R]at z;exact vK z
  exact PySem.W.ki_setAt M S N9 (by rw[vH,<-D];exact R) (by rw[F];exact⟨_,O,q⟩)
 .have F:(k+(w.toArray.size:Int)).toNat=j:=by
   rw[seqIndex_neg N9 P]at z;rw[vH,<-D];exact vK z
  exact PySem.W.ki_setBack M N9 (by rw[vH,<-D];exact P) N9 (by rw[F];exact⟨_,O,q⟩)
def xx10 (i:Int)(n:Nat):max 0 (min (if i<0 then i+n else i) n)=((if i<0 then (i+n).toNat else min i.toNat n):Nat):=by
 split
 .rw[Int.min_eq_left (by lia),Int.ofNat_toNat,Int.max_comm]
 .rename_i h;obtain⟨k,rfl⟩:=Int.eq_ofNat_of_zero_le (Int.not_lt.mp h);rw[Int.toNat_natCast,Int.max_eq_right (Int.le_min.mpr ⟨Int.not_lt.mp h,Int.natCast_nonneg n⟩)];rcases Nat.le_total k n with z|z
  .rw[Nat.min_eq_left z,Int.min_eq_left (Int.ofNat_le.mpr z)]
  .rw[Nat.min_eq_right z,Int.min_eq_right (Int.ofNat_le.mpr z)]
def xA (c k)n:(sliceBounds c k none n).1=(HT.dP n 0 c:Int)/\(sliceBounds c k none n).2.1=(HT.dP n n k:Nat)/\(sliceBounds c k none n).2.2=1:=by
 refine⟨?_,?_,rr⟩
 .cases c with
  |none=>rfl
  |some i=>exact xx10 i n
 .cases k with
  |none=>rfl
  |some i=>exact xx10 i n
def uF (c:LU)k o:slicePick c.toArray k o none=((c.drop (HT.dP c.length 0 k)).take (HT.dP c.length c.length o - HT.dP c.length 0 k)).toArray:=by
 obtain⟨q,r,w⟩:=xA k o _;unfold slicePick;rw[q,r,w];simp only[sliceRange_one,pick_run,vH]<;>rfl
def aat (K:Frag):V->OI->OI->Hp->VK->Prop:=λx k o H Q=>∃a c,x=.ref a/\fW K H a c/\∀p,H p=none->Q (.ref p) (upd H p (.lst (uE c k o)))
noncomputable def mu:V->Bool
 |.non=>true
 |.bl _=>true
 |.int _=>true
 |.str _=>true
 |_=>false
noncomputable def Nl:V->V->Bool
 |.non,.non=>true
 |.bl a,.bl b=>a == b
 |.bl a,.int b=>(if a then 1 else 0) == b
 |.int a,.bl b=>a == (if b then 1 else 0)
 |.int a,.int b=>a == b
 |.str a,.str b=>a == b
 |_,_=>false
def RH (O:aI y u)(M:aI x v)(U:mu y=true)(k:mu x=true):SeqAt.EqAt A s u v (Nl y x):=by
 cases y with
 |non=>
  cases O
  cases x with
  |non=>cases M;exact SeqAt.EqAt.same _
  |bl b=>cases M;exact SeqAt.EqAt.none_bool b
  |int b=>obtain⟨t,rfl⟩:=M;exact SeqAt.EqAt.none_int b t
  |str b=>obtain⟨t,rfl⟩:=M;exact SeqAt.EqAt.none_str b t
  |_=>exact absurd (show false=true from k) uX
 |bl a=>
  cases O
  cases x with
  |non=>cases M;exact SeqAt.EqAt.bool_none a
  |bl b=>cases M;exact SeqAt.EqAt.bool_bool a b
  |int b=>obtain⟨t,rfl⟩:=M;exact SeqAt.EqAt.bool_int a b t
  |str b=>obtain⟨t,rfl⟩:=M;exact SeqAt.EqAt.bool_str a b t
  |_=>exact absurd (show false=true from k) uX
 |int a=>
  obtain⟨c,rfl⟩:=O;cases x with
  |non=>cases M;exact SeqAt.EqAt.int_none a c
  |bl b=>cases M;exact SeqAt.EqAt.int_bool a c b
  |int b=>obtain⟨t,rfl⟩:=M;exact SeqAt.EqAt.int_int a c b t
  |str b=>obtain⟨t,rfl⟩:=M;exact SeqAt.EqAt.int_str a c b t
  |_=>exact absurd (show false=true from k) uX
 |str a=>
  obtain⟨c,rfl⟩:=O;cases x with
  |non=>cases M;exact SeqAt.EqAt.str_none a c
  |bl b=>cases M;exact SeqAt.EqAt.str_bool a c b
  |int b=>obtain⟨t,rfl⟩:=M;exact SeqAt.EqAt.str_int a c b t
  |str b=>obtain⟨t,rfl⟩:=M;exact SeqAt.EqAt.str_str a c b t
  |_=>exact absurd (show false=true from k) uX
 |_=>exact absurd (show false=true from U) uX
noncomputable def BJ (x:V)(u:Value):Bool:=match u with
 |.none=>Nl .non x
 |.bool b=>Nl (.bl b) x
 |.int i _=>Nl (.int i) x
 |.str z _=>Nl (.str z) x
 |_=>false
def ID (r:aI y u)(f:mu y=true):BJ x u=Nl y x:=by
 cases y with
 |non=>cases r;rfl
 |bl b=>cases r;rfl
 |int i=>obtain⟨t,rfl⟩:=r;rfl
 |str z=>obtain⟨t,rfl⟩:=r;rfl
 |_=>exact absurd (show false=true from f) uX
theorem nE {c:List V}{k:LU}(h:bd c k):c.all mu=true->k.any (BJ x)=c.any λy=>Nl y x:=by
 induction h with
 |nil=>intro _;rfl
 |cons r _ i=>intro f;rw[all_cons,vC]at f;rw[any_cons,any_cons,ID r f.1,i f.2]
theorem k9 (M:aI x v)(q:mu x=true):∀ {k:List V}{o:LU},bd k o->k.all mu=true->∀u∈o,SeqAt.EqAt A s u v (BJ x u)
 |_,_,.nil,_=>λu c=>by cases c
 |y::k,u::o,.cons r t,f=>λw c=>by
  rw[all_cons,vC]at f;rcases vP c with rfl|c
  .rw[ID r f.1];exact RH r M f.1 q
  .exact k9 M q t f.2 w c
noncomputable def ZB (x:V)(c:List V):Bool:=c.any λy=>Nl y x
def rIn (K:Frag)(M:Bool):R2:=λx y H Q=>∃p c,y=.ref p/\(fW K H p c\/iH K H p c)/\mu x=true/\c.all mu=true/\Q (.bl (if M then !ZB x c else ZB x c)) H
def xC:bH X (.builtin "len") (λz H Q=>∃p c,z=[.ref p]/\(fW X.K H p c\/iH X.K H p c)/\Q (.int c.length) H):=by
 intro F s P H z R Q I r h;obtain⟨p,c,rfl,k,q⟩:=h;obtain⟨u,rfl,U⟩:=gA r;cases U
 have S:=pz;rcases k with k|k
 .refine I.lisE k λo O w D=>?_;have M:=O.length;exact Calls.call_len_list w.isList (by grind) ⟨.int _,H,I.tok _,⟨s.toks+1,by rw[vH,M]⟩,q⟩
 .refine I.tupE k λo O w D=>?_;have M:=O.length;exact len_tuple w (by grind) ⟨.int _,H,I.tok _,⟨s.toks+1,by rw[vH,M]⟩,q⟩
def xD:bH X (.builtin "len") (λc H Q=>∃z,c=[.str z]/\z.length<=sizeLine/\Q (.int z.length) H):=by
 intro k s o H c w Q I r h;obtain⟨z,rfl,D,q⟩:=h;obtain⟨u,rfl,t,rfl⟩:=gA r;have F:=pz;exact len_str N9 ⟨.int _,H,I.tok _,⟨_,rr⟩,q⟩
def bH.or (h:bH X f r)(z:bH X f O):bH X f (λc H Q=>r c H Q\/O c H Q):=by
 intro k s o H c w Q I M q;rcases q with q|q
 .exact h k s o H c w Q I M q
 .exact z k s o H c w Q I M q
def tyV (K:Frag)(T:String)(x:V)(H:Hp):Prop:=match x with
 |.str _=>T = "str"
 |.int _=>T = "int"
 |.ref p=>(T = "list"/\∃k,fW K H p k)\/(T = "tuple"/\∃o,K.lookup p=some o/\o.cls=.type "tuple"/\o.dict=none) \/
   (T = "dict"/\((∃c q,H p=some (.dK c q))\/∃c,H p=some (.dT c)))\/(T = "set"/\∃S n,H p=some (.set S n))
 |_=>False
def BK (I:Inv X d f H s)(r:aI x v)(w:tyV X.K T x H):
  s.TypeIs v T/\∀a,v=.ref a->∃P,s.heap.get? a=some P/\P.dict=none:=by
 cases x with
 |str z=>
  obtain⟨t,rfl⟩:=r;cases (show T = "str" from w)
  simp[typeIs_str]
 |int i=>
  obtain⟨t,rfl⟩:=r;cases (show T = "int" from w)
  simp[typeIs_int]
 |ref p=>
  cases r
  rcases w with⟨rfl,h,V⟩|⟨rfl,o,k,W,D⟩|⟨rfl,k⟩|⟨rfl,S,n,k⟩
  .refine I.lisE V λZ y R y=>?_;refine⟨R.isList.typeIs,λa e=>?_⟩;cases e
   obtain⟨o,n,e,c,D,y⟩:=R;exact⟨o,e,D⟩
  .refine⟨⟨o,I.kIn p o k,W⟩,λa e=>?_⟩;cases e
   exact⟨o,I.kIn _ o k,D⟩
  .have z:∃o,s.heap.get? p=some o/\o.ExactDict:=by
    rcases k with⟨g,M,k⟩|⟨g,k⟩
    .obtain⟨_,_,_,_,_,o,_,_,e,q,_⟩:=I.hok p _ k;exact⟨o,e,q⟩
    .obtain⟨_,_,_,_,o,_,_,e,q,_⟩:=I.hok p _ k;exact⟨o,e,q⟩
   obtain⟨o,e,q⟩:=z;refine⟨⟨o,e,q.1⟩,λa F=>?_⟩;cases F
   exact⟨o,e,q.2.1⟩
  .obtain⟨o,_,_,_,e,q,_⟩:=I.hok p _ k;refine⟨⟨o,e,q.1⟩,λa F=>?_⟩;cases F
   exact⟨o,e,q.2.1⟩
 |_=>exact False.elim w
def tBM (K:Frag)(T:String)(r:V->List V->Hp->VK->Prop)(k:TE)(t:TA):TE:=λc H Q=>k c H λx M=>tyV K T x M/\t c M λo q=>r x o q Q
variable {o e:Expr}{es:QD}{to:TE}{t:TA}{name:Str}{cn bM:Pos}{T id:String}{r:V->List V->Hp->VK->Prop}
def yV (i:PlainAttrs T)(q:Slot T name id)(c:typeOf (.builtin id)=pure (.type "method_descriptor"))(D:VA X id r)(j:PE X o to)(F:PA X (e::es) t)
  (O:attributeBase o name X.env (eval o X.env)=eval o X.env:=by rfl)
  (k:((backTo bM (starEach (e::es) X.env)).all (λx=>!x.1) && (backToKw bM (keywordEach [] X.env)).all (λx=>x.1.isSome)
   && decide ((e::es).length+([]:List Keyword).length+(if([]:List Keyword).isEmpty then 0 else 1)<30))=true:=by rfl)
  (U:(cn.endLine == bM.line)=true:=by rfl) (P:dS e es X.env:=by rfl) (M:k7 bM es X.env:=by rfl):
  PE X (.Call (.Attribute o name cn) (e::es) [] bM) (tBM X.K T r to t):=by
 intro w s z H Q I h;refine wpAny_Call_method_late O k U rr (bY (j w s z H _ I h) λv R ⟨x,l,d,f,S,m⟩=>?_);obtain⟨W,Z⟩:=BK d f S;refine⟨T,id,i,q,c,W,Z,?_⟩;have g:=F bM w R z l _ d m;rw[P]at g |-;refine Calls.callWith_builtin (by show(false || (backTo bM _).any (·.1))=false;rw[M]<;>rfl) (Calls.evalArgs_plain ?_)
 exact bY g λu y ⟨A,B,n,p,C⟩=>D w y z B x A v u Q n f p C
/- xs.append(e),list.index on a module's tuple .. are VA facts of 06m -/
end
def MtM (X:Cx)(id:String)(r:V->List V->Hp->VK->Prop):Prop:=
 ∀(a:AO)(s:Shared)(b:St)(H:Hp)(x:V)(c:List V)(v:Value)(k:LU)(Q:VK),Inv X a b H s->aI x v->bd c k->r x c H Q ->
  wq X (call (.builtin id) (v::k)) (EP X a b Q) X.xe s
theorem bd.one(h:bd [x] a):∃u,a=[u]/\aI x u:=by
 cases h with
 |cons r h=>cases h;exact⟨_,rr,r⟩
def bd.two(h:bd [x,y] a):∃u v,a=[u,v]/\aI x u/\aI y v:=by
 cases h with
 |cons r h=>
  grind[bd.one]
theorem bd.zero:∀ {a:LU},bd [] a->a=[]
 |_,.nil=>rr
section
variable {X:Cx}{ag:AO}{σ:St}{H:Hp}{s:Shared}{l b:Addr}{xs ys zs:List V}
def Inv.lset {a its':LU}{n:Nat}{f:AV->AV}{t':Nat}(I:Inv X ag σ H s)(M:H l=some (.lst xs))
  (e:s.heap.get? l=some { cls:=.type "list",data:=.seq a.toArray n }) (c:f a.toArray=its'.toArray) (k:bd ys its') (o:ys.length<=sizeLine):
  Inv X ag σ (upd H l (.lst ys)) { s with heap:=s.heap.update l (Obj.mapSeq f),toks:=t' }:=by
 have q:=PySem.IsL.update e f;rw[c]at q;exact I.write   (by rw[M];exact trivial) (.inl rr) (λz u r=>(Heap.get?_update_other _ _ (Ne.symm r)).trans) ⟨_,q⟩ ⟨o,its',_,k,q⟩
def Inv.lnew (I:Inv X ag σ H s)(a:bd ys its)(c:ys.length<=sizeLine):
  Inv X ag σ (upd H s.z (.lst ys)) { s with heap:=s.heap.push { cls:=.type "list",data:=.seq its.toArray },toks:=t' } :=
 I.laid (λy y=>vZ _) (vT _) ⟨c,its,0,a,vY _ rr⟩
def Inv.fresh (I:Inv X ag σ H s):H s.z=none:=I.hok.fresh (vT _)
def Inv.lstM (I:Inv X ag σ H s)(M:H l=some (.lst xs)):xs.length<=sizeLine/\∃(a:LU)(n:Nat),bd xs a/\xs.length=a.length/\s.heap.get? l=some { cls:=.type "list",data:=.seq a.toArray n }:=by
 obtain⟨z,a,n,r,e⟩:=I.hok l _ M;exact⟨z,a,n,r,r.length,e⟩
def IE (h:n<=sizeLine):Builtin.List.listTooLong n=false:=by
 simp_all[Builtin.List.listTooLong]
end
section
variable {X:Cx}
def Di:V->List V->Hp->VK->Prop:=λx b H Q=>∃l a y,x=.ref l/\b=[y]/\H l=some (.lst a)/\a.length<sizeLine/\Q .non (upd H l (.lst (a++[y])))
def vw:MtM X "list.append" Di:=by
 intro c s k H x o v w Q I O U h;obtain⟨l,D,y,rfl,rfl,M,K,q⟩:=h;cases O
 obtain⟨u,rfl,b⟩:=U.one;obtain⟨z,a,n,r,P,e⟩:=I.lstM M;refine call_meets F.slot_list_append ⟨_,e,rr⟩ F.entry_list_append (F.args_list_append_2 _ _) (PySem.list_append l _ n u (by rw[vH];simp_all)) ⟨e,?_⟩;refine⟨.non,_,I.lset  M e H9 (r.append (.cons b .nil)) ?_,rr,q⟩;simp<;>assumption
def Nm:V->List V->Hp->VK->Prop:=λx k H Q=>∃l b a c,x=.ref l/\k=[.ref b]/\H l=some (.lst a)/\H b=some (.lst c)/\a.length+c.length<=sizeLine/\Q .non (upd H l (.lst (a++c)))
def Gi:MtM X "list.extend" Nm:=by
 intro P s R H x S v V Q I a c h;obtain⟨l,b,W,Z,rfl,rfl,U,d,j,q⟩:=h;cases a
 obtain⟨u,rfl,o⟩:=c.one;cases o
 obtain⟨z,k,n,r,m,e⟩:=I.lstM U;obtain⟨g,M,w,f,i,D⟩:=I.lstM d;have K:k.toArray.size+M.toArray.size<=sizeLine:=by simp_all
 refine call_meets F.slot_list_extend ⟨_,e,rr⟩ F.entry_list_extend (F.args_list_extend_2 _ _)
  (AutoSeq1.list_extend_list_list_0 l k.toArray n b M.toArray w (by
   simp_all[IE]) (by rw[vH];simp_all) N9) ⟨e,D,?_⟩
 refine⟨.non,_,I.lset  U e H9 (r.append f) ?_,rr,q⟩;simp_all
end
end L2
namespace Att
open PySem PySem.W PySem.Calls PyProof.Rows
def qN:∀(c:LI)(k:LU),WellAll P h k (c.map WData.int)->IntsAre k c:=by
 intro c;induction c with
 |nil=>
  intro k w;cases w
  exact .nil
 |cons n c M=>
  intro k w;cases w with
  |cons a b=>
   cases a
   exact .cons _ _ (M _ b)
def Gj {l:OpenLaw}{n:Nat}(F:l.most=some n){P:Params}{h:Heap}{k:List WData}{o:LU}
  (M:l.row.toRowW.claim.pre k=true) (b:WellAll P h o k):
  ∃a z q,o=[Value.ref a]/\k=[WData.list (q.map WData.int)]/\h.get? a=some { cls:=.type "list",data:=.seq z.toArray }/\IntsAre z q/\q.length<=n:=by
 have D:l.pre.holds [] _=true:=(pre_splitW M).2;obtain⟨d,r,rfl,K,R⟩:=hasAllW_cons (pre_splitW M).1;obtain rfl:=hasAllW_nil R;obtain⟨V,rfl,S⟩:=hasW_list K;obtain⟨q,rfl⟩:=items_int S;have O:q.length<=n:=by
  have W:=condW_of (by
   have w:=(holds_andW D).1;rw[F]at w;exact w) (w_not (w_lt w_lit (w_len_list (w_arg rr))));simp_all
 cases b with
 |cons e f=>
  cases f
  cases e with
  |list g U=>exact⟨_,_,q,rr,rr,g,qN q _ U,O⟩
section
variable {prog:Program}{w:World}{A:Around}{E:QV}{s:Shared}{K:Frag}
end
end Att
namespace L2
open PySem PySem.Spec PyProof.Rows
theorem gU {a:LU}{b:LI}(h:IntsAre a b):bd (b.map V.int) a:=h.rec .nil λn t _ _ _ i=>.cons ⟨t,rr⟩ i
noncomputable def gR (s:Stmt):Arguments:=match s with
 |.FunctionDef _ a _ _ _ _ _ _ _ _=>a
 |_=>{ posonlyargs:=[],args:=[],vararg:=none,kwonlyargs:=[],kw_defaults:=[],kwarg:=none,defaults:=[] }
noncomputable def cr (s:Stmt):List Stmt:=match s with
 |.FunctionDef _ _ b _ _ _ _ _ _ _=>b
 |_=>[]
noncomputable def aM (s:Stmt):Scope:=match s with
 |.FunctionDef _ _ _ _ _ _ a _ _ _=>a
 |_=>{ kind:=.function,names:=[],isGenerator:=false,isCoroutine:=false }
abbrev Bw:Qt:=λz z z z z z=>False
abbrev E0:XK:=λz z z=>False
def VD:BE Bw X E0:=λz z z z z z z h=>h.elim
structure Ul (K:Frag)(x qual:Str)(st:Stmt)(f:Addr)(fd:FuncData):Prop where
 ex:∃(oc:Value)(od:Option Addr)(kV doc pm:Value)(an:Option Addr)(f6 ct:Value)(pv:Array (Option Value)),
  fd=fnOf x qual (gR st) (cr st) (aM st) .none kV doc pm an f6 ct/\K.lookup f=some ⟨oc,od,.func fd,pv⟩/\PySem.W.codeIn K f6 qual=true
 kp:PySem.W.keepIn K (.ref f)=true
section
variable {P:Program}{w:World}{K:Frag}{mg:SV}{base:Heap}
def Ul.ok{f:Addr}{d:FuncData}{N W:LS}{k:Nat}{X:Sp}(F:Ul K x o D f d)(S:FnScope N W (aM D))(Z:∀r H Q E,X r H Q E->r.length=W.length)
  (M:∀(R:Value)(A:Around)c s(H:Hp)r(Q:VK)(E:XK),eQ k (A.deeper (envOfC o (aM D) s.z f R))->X r H Q E ->
   ∃t,vn (rQ Bw P w K mg base N o (aM D) f R A c s H E).nox (cr D) t/\t { nx:=λy e=>Q .non e,rt:=Q } (mq N r) H):u7 P w K mg base Bw (k+1) f d W X:=by
 obtain⟨i,j,kV,g,l,m,R,n,p,rfl,a,O⟩:=F.ex;refine Qu a O S Z λA c s H r Q E b U=>?_;obtain⟨t,h,q⟩:=M R A c s H r Q E b U;exact⟨t,h.nox,q⟩
def Ul.binds(F:Ul K x a c f R)
  (h:∀(kV b o)q r z(D:LU),D.length=k.length->bindArgs (fnOf x a (gR c) (cr c) (aM c) .none kV b o q r z) ⟨D,[]⟩=pure (k.zip D)):qk K R k []:=by
 obtain⟨S,V,kV,b,o,q,r,z,W,rfl,O,M⟩:=F.ex;exact .all (h kV b o q r z)
end
def aS (H a:Hp):Prop:=∀b o,H b=some o->a b=some o
def aS.refl H:aS H H:=λz z h=>h
def aS.trans (a:aS H M)(b:aS M d):aS H d:=λc o h=>b c o (a c o h)
def aS.free (e:aS H d)(h:d l=Option.none):H l=Option.none:=by
 cases q:H l with
 |none=>rfl
 |some o=>
  rw[e l o q]at h;cases h
def aS.seq {K:Frag}{H b:Hp}{a:Addr}{c:List V}(e:aS H b)(h:fW K H a c):fW K b a c:=by
 rcases h with (h|⟨o,h⟩)|h
 .exact .inl (.inl (e _ _ h))
 .exact .inl (.inr ⟨o,e _ _ h⟩)
 .exact .inr h
section
variable {κ:Type}[DecidableEq κ]
noncomputable def jA (a:List (κ×V))(k:κ):Option V:=(a.find? λb=>decide (b.1=k)).map (·.2)
noncomputable def p4 (b:List (κ×V))(k:κ)(v:V):List (κ×V):=
 if(b.any λa=>decide (a.1=k))=true then b.map (λa=>if a.1=k then (a.1,v)else a)else b++[(k,v)]
def nF{r:List (κ×V)}{k:κ}(e:p.1=k):jA (p::r) k=some p.2:=by simp[jA,e]
def nG{r:List (κ×V)}{k:κ}(e:¬p.1=k):jA (p::r) k=jA r k:=by simp[jA,e]
theorem yW k:∀a:List (κ×V),(a.any λb=>decide (b.1=k))=(jA a k).isSome
 |[]=>rr
 |p::r=>by
  rw[any_cons];by_cases e:p.1=k
  .simp_all[nF]
  .rw[nG e,yK e];exact yW k r
theorem kB a(k:κ)v:(p4 a k v).length<=a.length+1:=by
 grind[p4]
def mi.isSome_eq (r:mi o u):o.isSome=u.isSome:=by
 cases o with
 |none=>cases u with
  |none=>rfl
  |some _=>exact(show False from r).elim
 |some _=>cases u with
  |none=>exact(show False from r).elim
  |some _=>rfl
def mi.getD (r:mi o u)(M:aI d e):aI (o.getD d) (u.getD e):=by
 cases o with
 |none=>cases u with
  |none=>exact M
  |some _=>exact(show False from r).elim
 |some _=>cases u with
  |none=>exact(show False from r).elim
  |some _=>exact r
def KV.val(r:KV a c)(k:κ):mi (jA a k) (valueAt c k):=by
 induction r with
 |nil=>exact True.intro
 |@cons p q w M h t O=>
  obtain⟨z,o⟩:=h;by_cases e:p.1=k
  .have b:valueAt (q::M) k=some q.2:=by simp_all[valueAt]
   rw[nF e,b];exact o
  simp_all[valueAt,nG]
def KV.any (r:KV d e)(k:κ):(d.any λa=>decide (a.1=k))=e.any λa=>decide (a.1=k):=by
 induction r with
 |nil=>rfl
 |cons h t M=>simp_all
def KV.repl (r:KV d e)(k:κ)(O:aI y u):
  KV (d.map λa=>if a.1=k then (a.1,y)else a) (e.map λa=>if a.1=k then (a.1,u)else a):=by
 induction r with
 |nil=>exact .nil
 |@cons p q b U h t M=>
  rw[uY];refine .cons ?_ M;split<;>simp_all
def KV.put (r:KV f d)(k:κ)(M:aI y u):KV (p4 f k y) (stored d k u):=by
 unfold p4 stored;rw[r.any k];by_cases e:(d.any λa=>decide (a.1=k))=true
 .rw[if_pos e,if_pos e];exact r.repl k M
 .rw[if_neg e,if_neg e];exact Paired.snoc r ⟨rr,M⟩
def KV.length (r:KV d e):d.length=e.length:=Paired.length r
end
def qo (r:aI (kV k) u):(cO P w).is k u=true:=by
 cases k with
 |inl i=>obtain⟨t,e⟩:=(show ∃t,u=Value.int i t from r);simp_all[yP]
 |inr x=>obtain⟨t,e⟩:=(show ∃t,u=Value.str x t from r);simp_all[yQ]
theorem vx:∀ {a:List dH}{b:LU},bd (a.map kV) b->ItemsAre (cO P w) a b
 |[],_,r=>by cases r;exact .nil
 |k::a,_,r=>by
  cases r with
  |cons h t=>exact .cons (qo h) (vx t)
abbrev KT (H:Hp):List (List dH×V)->List (List dH×Addr×Value)->Prop:=Paired λp q=>p.1=q.1/\H q.2.1=some (.tup (p.1.map kV))/\aI p.2 q.2.2
def KT.val(r:KT H a c)k:mi (jA a k) ((atKey c k).map (·.2)):=by
 induction r with
 |nil=>exact True.intro
 |@cons p q z M h t U=>
  obtain⟨o,y,w⟩:=h;by_cases e:p.1=k
  .have b:atKey (q::M) k=some q.2:=by simp[atKey,o.symm.trans e]
   rw[nF e,b];exact w
  simp_all[atKey,nG]
def KT.repl (r:KT H d e)k(O:aI y u):
  KT H (d.map λa=>if a.1=k then (a.1,y)else a) (e.map (putAt k u)):=by
 induction r with
 |nil=>exact .nil
 |@cons p q b U h t M=>
  refine .cons ?_ M;unfold putAt;split<;>simp_all
def KT.put (r:KT H f d)(k:List dH)(a:H b=some (.tup (k.map kV)))(M:aI y u):
  KT H (p4 f k y) (storedH d k b u):=by
 have e:(f.any λc=>decide (c.1=k))=(atKey d k).isSome:=by
  rw[yW,(r.val k).isSome_eq,Option.isSome_map]
 unfold p4 storedH;rw[e];by_cases q:(atKey d k).isSome=true
 .rw[if_pos q,if_pos q];exact r.repl k M
 .rw[if_neg q,if_neg q];exact Paired.snoc r ⟨rr,a,M⟩
def KT.keeps (r:KT H d e)(M:∀b a,H b=some (.tup a)->f b=some (.tup a)):KT f d e:=
 Paired.mapP r λy y z=>⟨z.1,M _ _ z.2.1,z.2.2⟩
section
variable {P:Program}{w:World}{H:Hp}{h:Heap}{a:Addr}
def BL (b:ml P w H h)(e:H a=some (.dK d ob)):h.get? a=some ob:=And.left (show bA P w H h a _ from b a _ e)
def qp (c:ml P w H h)(e:Rd H a (.dK d ob)):d.length<=sizeLine/\(a == sysModules)=false/\∃b,KV d b/\h.DictOf (cO P w) a b:=
 And.right (show bA P w H h a _ from e.ok c)
def qq (c:ml P w H h)(e:H a=some (.dK d ob)):d.length<=sizeLine/\(a == sysModules)=false/\∃b,KV d b/\h.DictOf (cO P w) a b:=qp c (.inl e)
theorem mC (c:ml P w H h)(e:H a=some (.tup (d.map kV))):(tupleKind (cO P w)).is h d a:=by
 refine cX λy g'=>?_;obtain⟨y,b,r,o,k,q,n,z⟩:=(show bA P w H h a _ from c a _ e);apply g';exact⟨o,b.toArray,n,k,q,z,by simpa using vx r⟩
def qr (c:ml P w H h)(e:Rd H a (.dT d)):d.length<=sizeLine/\(a == sysModules)=false /\
  ∃b,KT H d b/\h.DictOfH (tupleKind (cO P w)) a b:=by
 refine cX λv g'=>?_;obtain⟨z,y,b,r,o,k,M,D,F,K,R,S⟩:=(show bA P w H h a _ from e.ok c);apply g';refine⟨z,y,b,r,o,k,M,D,F,K,R,λx hx=>?_,S⟩;have all:∀ {l:List _}{m:List _},KT H l m->∀x∈m,(tupleKind (cO P w)).is h x.1 x.2.1:=by
  intro l m q;induction q with
  |nil=>intro x hx;exact nomatch hx
  |@cons p q V O W t U=>
   grind[mC]
 exact all r x hx
end
def rV (H:Hp)(a:Addr)(y:V)(r:Option V):Prop:=
 (∃c k o,Rd H a (.dK c o)/\y=kV k/\r=jA c k)\/∃c k b,Rd H a (.dT c)/\y=.ref b/\H b=some (.tup (k.map kV))/\r=jA c k
def VF (H:Hp)(a:Addr)(y v:V)(Q:Hp->Prop):Prop:=
 (∃c k o,H a=some (.dK c o)/\y=kV k/\c.length<sizeLine/\∀M,Q (upd H a (.dK (p4 c k v) M))) \/
 ∃c k b,H a=some (.dT c)/\y=.ref b/\H b=some (.tup (k.map kV))/\c.length<sizeLine/\Q (upd H a (.dT (p4 c k v)))
section
variable {X:Cx}{ag:AO}{σ:St}{H:Hp}{s:Shared}{a:Addr}{y v:V}{u r:Value}{o:Option V}{A:Around}{E:QV}
def Inv.big (I:Inv X ag σ H s):sysModules<s.z:=by
 have h:=(I.mod.glob.keeps I.bk).lt;exact Nat.lt_trans C_ h
def Gm (P:A.units+1<cLine)(I:Inv X ag σ H s)(g:rV H a y (some v))(d:aI y u)(h:∀O K,Inv X ag σ H K->aI v O->Q O K):
  wpAny (model X.prog X.w) A (getItem (.ref a) u) Q E s:=by
 rcases g with⟨R,k,Z,e,U,l⟩|⟨R,k,b,e,U,f,l⟩
 .subst U;obtain⟨z,S,i,q,D⟩:=qp I.hok e;obtain⟨O,F,M⟩:=mi.some_of (by rw[l];exact q.val k);exact wpAny_getItem_of (qo d) D.mapOf F (h O _ (I.tok _) M)
 .subst U;cases (show u=Value.ref b from d)
  obtain⟨z,S,j,q,D⟩:=qr I.hok e;obtain⟨O,F,M⟩:=mi.some_of (by rw[l];exact q.val k);refine eS F λp W c=>?_;refine wpAny_getItem_heap (tupleKind_room_in1 P) (mC I.hok f) D W ?_;rw[c];exact h O _ (I.tok _) M
def aaw (P:A.units+1<cLine)(I:Inv X ag σ H s)(g:rV H a y o)(O:aI y u)(h:∀K,Inv X ag σ H K->Q (.bool o.isSome) K):
  wpAny (model X.prog X.w) A (compareOp .In u (.ref a)) Q E s:=by
 rcases g with⟨R,k,S,e,M,l⟩|⟨R,k,b,e,M,U,l⟩
 .subst M;obtain⟨z,D,W,c,F⟩:=qp I.hok e;refine wpAny_in_of (qo O) D F.mapOf ?_;rw[<-(c.val k).isSome_eq,<-l];exact h _ (I.tok _)
 .subst M;cases (show u=Value.ref b from O)
  obtain⟨z,D,Z,c,F⟩:=qr I.hok e;refine wpAny_in_heap (tupleKind_room_in1 P) (mC I.hok U) D F ?_;have q:=(c.val k).isSome_eq;rw[Option.isSome_map]at q;rw[<-q,<-l];exact h _ (I.tok _)
def Nn (P:A.units+1<cLine)(I:Inv X ag σ H s)(g:rV H a y o)(O:aI y u)(h:∀K,Inv X ag σ H K->Q (.bool (!o.isSome)) K):
  wpAny (model X.prog X.w) A (compareOp .NotIn u (.ref a)) Q E s:=by
 rcases g with⟨R,k,S,e,M,l⟩|⟨R,k,b,e,M,U,l⟩
 .subst M;obtain⟨z,D,W,c,F⟩:=qp I.hok e;refine wpAny_notIn_of (qo O) D F.mapOf ?_;rw[<-(c.val k).isSome_eq,<-l];exact h _ (I.tok _)
 .subst M;cases (show u=Value.ref b from O)
  obtain⟨z,D,Z,c,F⟩:=qr I.hok e;refine wpAny_notIn_heap (tupleKind_room_in1 P) (mC I.hok U) D F ?_;have q:=(c.val k).isSome_eq;rw[Option.isSome_map]at q;rw[<-q,<-l];exact h _ (I.tok _)
def xF (I:Inv X ag σ H s)(M:Vb (H a))(k:Heap.SameBut a s.heap d)(D:∃q,d.get? a=some q)(c:bA X.prog X.w (upd H a ob) d a ob):
  Inv X ag σ (upd H a ob) { s with heap:=d,toks:=t' } :=
 I.write M (.inl rr) (λb q F z=>(k.2 b F).trans z) D c
def IF (z:d.length<=sizeLine)(c:(a == sysModules)=false)(b:KV d e)(k:f.DictOf (cO P w) a e)(M:f.get? a=some ob):
  bA P w g f a (.dK d ob):=⟨M,z,c,e,b,k⟩
def Gn (B:A.units+1<cLine)(I:Inv X ag σ H s)(g:VF H a y v R)(d:aI y u)(f:aI v r)(h:∀p t,R p->Inv X ag σ p t->Q () t):
  wpAny (model X.prog X.w) A (setItem (.ref a) u r) Q E s:=by
 rcases g with⟨K,k,ob,e,O,l,U⟩|⟨K,k,b,e,O,i,l,U⟩
 .subst O;obtain⟨z,P,C,D,S⟩:=qq I.hok e;have W:C.length<=sizeLine:=by rw[<-D.length];exact z
  refine wpAny_setItem_pairs (hsz:=W) (qo d) S λx M n=>?_;obtain⟨q,F⟩:∃q,x.get? a=some q:=let ⟨q,_,_,F,_⟩:=M;⟨q,F⟩;exact h _ _ (U q) (xF I (by rw[e];exact True.intro) n ⟨q,F⟩ (⟨F,(by have:=kB K k v;lia),P,(stored C k r),(D.put k f),M⟩))
 .subst O;cases (show u=Value.ref b from d)
  obtain⟨z,P,G,D,S⟩:=qr I.hok (.inl e);have W:G.length<=sizeLine:=by rw[<-Paired.length D];exact z
  refine wpAny_setItem_heap (hsz:=W) (tupleKind_room_in1 B) (mC I.hok i) S λx M n=>h _ _ U ?_;refine cX λo g'=>?_;obtain⟨q,J,m,F,L,N,T,o,Y⟩:=M;apply g';refine  I.write (by rw[e];exact True.intro) (.inl rr) (λb d g z=>(n.2 b g).trans z) ⟨q,F⟩ ⟨by have:=kB K k v;lia,P,_,(D.put k i f).keeps λc ys j=>?_,q,J,m,F,L,N,T,Y⟩;rw[a8 (by
   lia)];exact j
end
def RJ (i:Expr):Prop:=∀M a,subscripted i false M a=operate [M,a] (getItem M a)
def No{T id:String}
  (z:typeLookup (.type T) "__getitem__" = pure (some (.builtin id))) (D:RJ M)
  (h:wpAny (model k w) A (eval O q) (λo b=>wpAny (model k w) A (eval M q) (λi U=>U.TypeIs o T/\wpAny (model k w) A (getItem o i) Q E U) E b) E s):
  wpAny (model k w) A (eval (.Subscript O M f) q) Q E s:=by
 refine Subscript_ (wpAny_mono h (λo b d=>wpAny_mono d (λi U a=>?_) λy y x=>x) λy y x=>x);obtain⟨g,a⟩:=a;refine wX (wX (wpAny_specialOf g z ?_));first
  |exact wY (wX (by
   rw[D o i];exact wpAny_operating (wpAny_mono a (λr c e=>wX (wpAny_letTemporaryGo (wY e))) λy y x=>x)))
  |exact wX _
  |exact wX _
def VG (M k:TE):TE:=λb H Q=>M b H λx O=>k b O λy c=>∃a v,x=.ref a/\rV c a y (some v)/\Q v c
def aax (k M:TE):TE:=λb H Q=>k b H λy O=>M b O λx c=>∃a o,x=.ref a/\rV c a y o/\Q (.bl o.isSome) c
def Np (k M:TE):TE:=λb H Q=>k b H λy O=>M b O λx c=>∃a o,x=.ref a/\rV c a y o/\Q (.bl (!o.isSome)) c
def Dj (M k O:TE):TS:=λD c H=>O c H λv U=>M c U λx o=>k c o λy b=>∃a,x=.ref a/\VF b a y v (D.nx c)
section
variable {X:Cx}{o i e value:Expr}{pos Mv Uk:Pos}{td ty tv:TE}
def Nq (r:X.A.units+1<cLine)(U:PE X o td)(w:PE X i ty)(z:RJ i):PE X (.Subscript o i pos) (VG td ty):=by
 intro S s q H Q I h;refine No PySem.F.slot_dict_getitem.lookup z (bY (U _ s q H _ I h) λu D ⟨x,b,c,d,f⟩=>bY (w _ D q b _ c f) λV W ⟨y,K,O,j,a,v,P,g,R⟩=>?_);subst P;obtain rfl:u=Value.ref a:=d;exact⟨by
  rcases g with⟨q,k,M,e,t,t⟩|⟨q,k,b,e,t,t,t⟩
  .obtain⟨_,_,r,_,c⟩:=qp O.hok e;exact c.typeIs
  .obtain⟨_,_,w,_,c⟩:=qr O.hok e;exact c.typeIs,Gm r O g j λl m k M=>⟨v,K,k,M,R⟩⟩
def IG (r:X.A.units+1<cLine)(w:PE X i ty)(M:PE X o td):PC X .In i o (aax ty td):=by
 intro P s q H Q I h;refine bY (w _ s q H _ I h) λR z ⟨y,O,U,b,c⟩=>bY (M _ z q O _ U c) λu S ⟨x,D,d,f,a,k,F,g,K⟩=>?_;subst F;obtain rfl:u=Value.ref a:=f;exact aaw r d g b λl j=>⟨.bl _,D,j,rr,K⟩
def Go (r:X.A.units+1<cLine)(w:PE X i ty)(M:PE X o td):PC X .NotIn i o (Np ty td):=by
 intro P s q H Q I h;refine bY (w _ s q H _ I h) λR z ⟨y,O,U,b,c⟩=>bY (M _ z q O _ U c) λu S ⟨x,D,d,f,a,k,F,g,K⟩=>?_;subst F;obtain rfl:u=Value.ref a:=f;exact Nn r d g b λl j=>⟨.bl _,D,j,rr,K⟩
def xG (z:X.A.units+1<cLine)(M:PE X o td)(F:PE X i ty)(K:PE X value tv)(P:swapsWith value (some (.Subscript o i Mv)) pos.line X.env=pure false):
  PS X (.Assign [.Subscript o i Mv] value pos) (Dj td ty tv):=by
 intro B s w H D I h;refine wpAny_Assign_Subscript (bY (K _ s w H _ I h) λr R ⟨v,O,U,b,c⟩=>bY (M _ R w O _ U c) λu S ⟨x,V,d,f,W⟩=>bY (F _ S w V _ d W) λC p ⟨y,q,j,k,a,Z,g⟩=>?_) P;subst Z;obtain rfl:u=Value.ref a:=f;exact Gn z j g k b λl t m n=>⟨w,l,n,m⟩
end
def yY (h:Heap)(a:sysModules<h.objs.size):bA P w H (h.push { cls:=.type "dict",data:=.dict #[] }) h.objs.size (.dK [] { cls:=.type "dict",data:=.dict #[] }):=
 ⟨vY _ rr,uN _,beq_eq_false_iff_ne.mpr (Ne.symm (vS a)),[],.nil,Heap.DictOf.new h⟩
def IH (h:Heap)(a:sysModules<h.objs.size):bA P w H (h.push { cls:=.type "dict",data:=.dict #[] }) h.objs.size (.dT []):=
 ⟨uN _,beq_eq_false_iff_ne.mpr (Ne.symm (vS a)),[],.nil,_,#[],0,vY _ rr,⟨rr,rr,rr⟩,rr,rr,nodup_nil⟩
def II:TE:=λz H Q=>∀p a,H p=none->Q (.ref p) (upd H p (.dK [] a))
def IJ:TE:=λz H Q=>∀p,H p=none->Q (.ref p) (upd H p (.dT []))
section
variable {X:Cx}{pos:Pos}
end
structure M1 (X:Cx)(o:Expr)(m:Str)(cn:Pos)(e:Expr)(bM:Pos):Prop where
 base:attributeBase o m X.env (eval o X.env)=eval o X.env
 few:qi bM e X.env
 line:(cn.endLine == bM.line)=true
 trees:backTo bM (starEach [e] X.env)=[(false,eval e X.env)]
structure M2 (X:Cx)(o:Expr)(m:Str)(cn:Pos)(e f:Expr)(bM:Pos):Prop where
 base:attributeBase o m X.env (eval o X.env)=eval o X.env
 few:((backTo bM (starEach [e,f] X.env)).all (λx=>!x.1) && (backToKw bM (keywordEach [] X.env)).all (λx=>x.1.isSome)
  && decide (([e,f]:List Expr).length+([]:List Keyword).length+(if([]:List Keyword).isEmpty then 0 else 1)<30))=true
 line:(cn.endLine == bM.line)=true
 trees:backTo bM (starEach [e,f] X.env)=[(false,eval e X.env),(false,eval f X.env)]
def IsD (H:Hp)(a:Addr):Prop:=(∃b c,Rd H a (.dK b c))\/∃b,Rd H a (.dT b)
def IM (I:Inv X f g H s)(d:IsD H a):
  s.TypeIs (.ref a) "dict"/\(∀b,Value.ref a=.ref b->∃c,s.heap.get? b=some c/\c.dict=none)/\(a == sysModules)=false:=by
 rcases d with⟨z,M,e⟩|⟨z,e⟩
 .obtain⟨_,o,D,_,k⟩:=qp I.hok e;refine⟨k.typeIs,λb q=>?_,o⟩;cases q
  obtain⟨c,y,y,r,w,y⟩:=k;exact⟨c,r,w.2.1⟩
 .refine cX λy g'=>?_;obtain⟨y,o,F,y,k⟩:=qr I.hok e;apply g';refine⟨k.typeIs,λb q=>?_,o⟩;cases q
  obtain⟨c,y,y,r,w,y⟩:=k;exact⟨c,r,w.2.1⟩
section
variable {X:Cx}{ag:AO}{σ:St}{H:Hp}{s:Shared}{a:Addr}{y d:V}{u r:Value}{o:Option V}{A:Around}{E:QV}
def RK (R:A.units+1<cLine)(I:Inv X ag σ H s)(g:rV H a y o)(O:aI y u)(h:∀U P,Inv X ag σ H P->aI (o.getD .non) U->Q U P):
  wpAny (model X.prog X.w) A (call (.builtin "dict.get") [.ref a,u]) Q E s:=by
 rcases g with⟨S,k,Z,e,M,l⟩|⟨S,k,b,e,M,c,l⟩
 .subst M;obtain⟨z,K,f,q,D⟩:=qp I.hok e;refine call_meetsIn slot_dict_get D.typeIs entry_dict_get (PySem.F.args_dict_get_2 _ _) (meets_dict_get _ a (qo O) K) ⟨_,D.mapOf,h _ _ (I.tok _) ?_⟩;rw[l];exact(q.val k).getD rr
 .subst M;cases (show u=Value.ref b from O)
  obtain⟨z,K,W,q,D⟩:=qr I.hok e;refine call_meetsIn slot_dict_get D.typeIs entry_dict_get (PySem.F.args_dict_get_2 _ _) (meetsH_dict_get _ a b K) ⟨tupleKind_room_in1 R,k,W,mC I.hok c,D,h _ _ (I.tok _) ?_⟩;rw[l];exact(q.val k).getD rr
def RM (R:A.units+1<cLine)(I:Inv X ag σ H s)(g:rV H a y o)(O:aI y u)(U:aI d r)(h:∀c P,Inv X ag σ H P->aI (o.getD d) c->Q c P):
  wpAny (model X.prog X.w) A (call (.builtin "dict.get") [.ref a,u,r]) Q E s:=by
 rcases g with⟨S,k,Z,e,M,l⟩|⟨S,k,b,e,M,f,l⟩
 .subst M;obtain⟨z,K,i,q,D⟩:=qp I.hok e;refine call_meetsIn slot_dict_get D.typeIs entry_dict_get (PySem.F.args_dict_get_3 _ _ _) (meets_dict_get_default _ a (qo O) K r) ⟨_,D.mapOf,h _ _ (I.tok _) ?_⟩;rw[l];exact(q.val k).getD U
 .subst M;cases (show u=Value.ref b from O)
  obtain⟨z,K,W,q,D⟩:=qr I.hok e;refine call_meetsIn slot_dict_get D.typeIs entry_dict_get (PySem.F.args_dict_get_3 _ _ _) (meetsH_dict_get_default _ a b K r) ⟨tupleKind_room_in1 R,k,W,mC I.hok f,D,h _ _ (I.tok _) ?_⟩;rw[l];exact(q.val k).getD U
end
def RN (O k:TE):TE:=λb H Q=>O b H λx M=>∃a,x=.ref a/\IsD M a/\k b M λy c=>∃o,rV c a y o/\Q (o.getD .non) c
def RO (U k b:TE):TE:=λc H Q=>U c H λx M=>∃a,x=.ref a/\IsD M a/\k c M λy q=>b c q λz O=>∃o,rV O a y o/\Q (o.getD z) O
section
variable {X:Cx}{o e f:Expr}{cn bM:Pos}{td ty tx:TE}
def yZ (z:X.A.units+1<cLine)(U:PE X o td)(D:PE X e ty)(m:M1 X o "get" cn e bM):PE X (.Call (.Attribute o "get" cn) [e] [] bM) (RN td ty):=by
 intro S s w H Q I h;refine wpAny_Call_method m.base m.few m.line plainAttrs_dict slot_dict_get type_dict_get (bY (U _ s w H _ I h) λu F ⟨x,b,O,c,a,K,d,i⟩=>?_);subst K;obtain rfl:u=Value.ref a:=c;obtain⟨j,k,v⟩:=IM O d;refine⟨j,k,?_⟩;rw[m.trees];refine Calls.callWith_builtin rr (Calls.evalArgs_plain (Calls.spliced_cons (bY (D _ F w b _ O i) λV W ⟨y,P,l,n,q,g,R⟩=>Calls.spliced_nil ?_)));exact RK z l g n λr t p M=>⟨_,P,p,M,R⟩
def IN (K:X.A.units+1<cLine)(U:PE X o td)(P:PE X e ty)(R:PE X f tx)(m:M2 X o "get" cn e f bM):PE X (.Call (.Attribute o "get" cn) [e,f] [] bM) (RO td ty tx):=by
 intro J s F H Q I h;refine wpAny_Call_method m.base m.few m.line plainAttrs_dict slot_dict_get type_dict_get (bY (U _ s F H _ I h) λu S ⟨x,b,O,c,a,V,d,i⟩=>?_);subst V;obtain rfl:u=Value.ref a:=c;obtain⟨j,k,Y⟩:=IM O d;refine⟨j,k,?_⟩;rw[m.trees];refine Calls.callWith_builtin rr (Calls.evalArgs_plain (Calls.spliced_cons (bY (P _ S F b _ O i) λL W ⟨y,Z,l,n,G⟩=>
  Calls.spliced_cons (bY (R _ W F Z _ l G) λw B ⟨z,p,q,r,C,g,t⟩=>Calls.spliced_nil ?_))))
 exact RM K q g n r λD E v M=>⟨_,p,v,M,t⟩
end
end L2
namespace DL
open PySem L2
abbrev St:=L2.St
set_option genInjectivity true in
inductive D where
 |non|bl (b:Bool)|int (i:Int)|str (x:Str)|ty (n:String)|tup (ds:List D)|lst (ds:List D)
  |dk (ks:List dH) (vs:List D)|dt (ks:List (List dH)) (vs:List D)
abbrev LD:=List D
abbrev LV:=List V
abbrev LK:=List dH
abbrev OB:=Option (D×Bool)
mutual
inductive Is (K:Frag)(H:Hp):V->D->Prop where
 |non:Is K H .non .non
 |bl (b:Bool):Is K H (.bl b) (.bl b)
 |int (i:Int):Is K H (.int i) (.int i)
 |str (x:Str):Is K H (.str x) (.str x)
 |ty (n:String):Is K H (.ty n) (.ty n)
 |tup {a:Addr}{vs:List V}{ds:List D}(h:iH K H a vs) (hs:IsL K H vs ds):Is K H (.ref a) (.tup ds)
 |lst {a:Addr}{vs:List V}{ds:List D}(h:fW K H a vs) (hs:IsL K H vs ds):Is K H (.ref a) (.lst ds)
 |dk {a:Addr}{ks:List dH}{vs:List V}{ds:List D}{ob:Obj}(h:H a=some (.dK (ks.zip vs) ob)) (hl:ks.length=vs.length) (hs:IsL K H vs ds):Is K H (.ref a) (.dk ks ds)
 |dt {a:Addr}{ks:List (List dH)}{vs:List V}{ds:List D}(h:H a=some (.dT (ks.zip vs))) (hl:ks.length=vs.length) (hs:IsL K H vs ds):Is K H (.ref a) (.dt ks ds)
inductive IsL (K:Frag)(H:Hp):List V->List D->Prop where
 |nil:IsL K H [] []
 |cons {v:V}{d:D}{vs:List V}{ds:List D}(h:Is K H v d) (hs:IsL K H vs ds):IsL K H (v::vs) (d::ds)
end
mutual
def bi:D->Bool
 |.lst _=>false
 |.dk _ _=>false
 |.dt _ _=>false
 |.tup a=>aU a
 |_=>true
def aU:LD->Bool
 |[]=>true
 |d::a=>bi d && aU a
end
@[simp] def U4:bi .non=true:=by simp [bi]
@[simp] def VH b:bi (.bl b)=true:=by simp [bi]
@[simp] def U5 i:bi (.int i)=true:=by simp [bi]
@[simp] def U6 x:bi (.str x)=true:=by simp [bi]
@[simp] def VI x:bi (.ty x)=true:=by simp [bi]
@[simp] def U7 a:bi (.tup a)=aU a:=by rw[bi]
@[simp] def U8 a:bi (.lst a)=false:=by rw[bi]
@[simp] def VJ (a)b:bi (.dk a b)=false:=by rw[bi]
@[simp] def VL a b:bi (.dt a b)=false:=by rw[bi]
@[simp] def RP:aU []=true:=by rw[aU]
@[simp] def Qw (d)a:aU (d::a)=(bi d && aU a):=by rw[aU]
section
variable {K:Frag}{H H':Hp}
@[elab_as_elim] theorem IsL.ind {P:∀a b,IsL K H a b->Prop}(n:P [] [] .nil)(s:∀{v d b c}(i:Is K H v d) (j:IsL K H b c),P b c j->P (v::b) (d::c) (.cons i j)){a:LV}{b:LD}(h:IsL K H a b):P a b h:=by
 refine IsL.rec (motive_1:=λ_ _ _=>True) (motive_2:=P) ?_ ?_ ?_ ?_ ?_ ?_ ?_ ?_ ?_ n (λh t _=>s h t) h<;>(intros;trivial)
theorem Is.keep (M:∀a o,iH K H a o->iH K H' a o)(O:∀a o,fW K H a o->fW K H' a o)(U:∀a q w,H a=some (.dK q w)->H' a=some (.dK q w))(c:∀a q,H a=some (.dT q)->H' a=some (.dT q)){v:V}{d:D}(h:Is K H v d):Is K H' v d:=
 Is.rec (motive_1:=λv d _=>Is K H' v d) (motive_2:=λv d _=>IsL K H' v d) .non .bl .int .str .ty (λh _=>.tup (M _ _ h)) (λh _=>.lst (O _ _ h)) (λh r _=>.dk (U _ _ _ h) r) (λh r _=>.dt (c _ _ h) r) .nil (λ_ _=>.cons) h
theorem IsL.keep (M:∀a c,iH K H a c->iH K H' a c)(O:∀a c,fW K H a c->fW K H' a c)(U:∀a k o,H a=some (.dK k o)->H' a=some (.dK k o))(b:∀a k,H a=some (.dT k)->H' a=some (.dT k)){c:LV}{q:LD}(h:IsL K H c q):IsL K H' c q:=h.ind .nil λh _=>.cons (h.keep M O U b)
theorem Is.keepT (M:∀a k,iH K H a k->iH K H' a k){v:V}{d:D}(h:Is K H v d):bi d=true->Is K H' v d:=
 Is.rec (motive_1:=λv d _=>bi d=true->Is K H' v d) (motive_2:=λv d _=>aU d=true->IsL K H' v d) (λ_=>.non) (λb _=>.bl b) (λi _=>.int i) (λx _=>.str x) (λx _=>.ty x) (λh _ k n=>.tup (M _ _ h) (k (by simpa using n))) (λ_ _ _ n=>by simp at n) (λ_ _ _ _ n=>by simp at n) (λ_ _ _ _ n=>by simp at n) (λ_=>.nil) (λ_ _ h k n=>by simp at n;exact .cons (h n.1) (k n.2)) h
theorem IsL.keepT (M:∀a b,iH K H a b->iH K H' a b){b:LV}{c:LD}(h:IsL K H b c):aU c=true->IsL K H' b c:=h.ind (λ_=>.nil) λh _ k n=>by simp at n;exact .cons (h.keepT M n.1) (k n.2)
def bf (e:aS H H')(h:iH K H a d):iH K H' a d:=by
 rcases h with (h|⟨o,h⟩)|h
 .exact .inl (.inl (e _ _ h))
 .exact .inl (.inr ⟨o,e _ _ h⟩)
 .exact .inr h
def Is.mono (h:Is K H v d)(e:aS H H'):Is K H' v d:=h.keep (λz z=>bf e) (λz z=>e.seq) (λz z z=>e _ _) λz z=>e _ _
def IsL.mono (h:IsL K H v d)(e:aS H H'):IsL K H' v d:=h.keep (λz z=>bf e) (λz z=>e.seq) (λz z z=>e _ _) λz z=>e _ _
theorem IsL.length {a:LV}{b:LD}(h:IsL K H a b):a.length=b.length:=h.ind rr λ_ _ i=>congrArg _ i
theorem IsL.get:∀ {a:LV}{b:LD}{i:Nat}{d:D},IsL K H a b->b[i]? = some d->∃v,a[i]? = some v/\Is K H v d
 |_,_,_,_,.nil,e=>by simp at e
 |_,_,0,_,.cons h _,e=>by simp_all
 |_,_,i+1,d,.cons _ t,e=>by
  obtain⟨u,c,k⟩:=t.get (by simpa using e);simp_all
theorem IsL.append {a b:LV}{c k:LD}(h:IsL K H a c)(s:IsL K H b k):IsL K H (a++b) (c++k):=h.ind s λr _ i=>.cons r i
theorem IsL.take:∀ {a:LV}{b:LD}n,IsL K H a b->IsL K H (a.take n) (b.take n)
 |_,_,0,_=>by simpa using IsL.nil
 |_,_,_+1,.nil=>.nil
 |_,_,n+1,.cons r t=>.cons r (t.take n)
theorem IsL.drop:∀ {a:LV}{b:LD}n,IsL K H a b->IsL K H (a.drop n) (b.drop n)
 |_,_,0,r=>r
 |_,_,_+1,.nil=>.nil
 |_,_,n+1,.cons _ t=>t.drop n
theorem IsL.set (h:Is K H v d):∀ {a:LV}{b:LD}i,IsL K H a b->IsL K H (a.set i v) (b.set i d)
 |_,_,_,.nil=>.nil
 |_,_,0,.cons _ t=>.cons h t
 |_,_,i+1,.cons r t=>.cons r (IsL.set h i t)
def IsL.flat{a:LI}(h:b=a.map V.int):IsL K H b (a.map D.int):=by
 subst h;induction a with
 |nil=>exact .nil
 |cons n a M=>exact .cons (.int n) M
end
structure Ext (B N H H':Hp):Prop where
 hh:aS H H'
 bn:aS B N
 nh:aS N H'
 new:∀a o,N a=some o->B a=some o\/H a=none
def Ext.refl (h:aS B H):Ext B B H H:=⟨.refl _,.refl _,h,λz z=>.inl⟩
def Ext.trans (x:Ext B N H M)(y:Ext N d M f):Ext B d H f:=
 ⟨x.hh.trans y.hh,x.bn.trans y.bn,y.nh,λa o e=>(y.new a o e).elim (λq=>x.new a o q) λq=>.inr (x.hh.free q)⟩
def Ext.laid (h:aS B H)(b:H p=none):Ext B (upd B p o) H (upd H p o):=by
 have M:=h.free b;refine⟨λa u e=>?_,λa u e=>?_,λa u e=>?_,λa u e=>?_⟩
 .grind[a8]
 .grind[a8]
 .by_cases q:a=p
  .simp_all[av]
  .rw[a8 q]at e |-;exact h _ _ e
 grind[a8]
def Ext.grow (h:aS B H)(a:aS H d):Ext B B H d:=⟨a,.refl _,h.trans a,λz z=>.inl⟩
abbrev Env:=List OB
abbrev FE:=Env->OB
abbrev FA:=Env->Option LD
abbrev FT:=Env->Option Bool
def U9 (K:Frag)(H N:Hp)(v:V):D->Prop
 |.tup k=>∃(a:Addr)(c:LV),v=.ref a/\iH K N a c/\IsL K N c k/\∀(i:Nat)(o:LD),k[i]? = some (.lst o)->∃(b:Addr)(q:LV),c[i]? = some (.ref b)/\H b=none/\N b=some (.lst q)/\IsL K N q o
 |d=>∃(a:Addr)(c:LV)(k:LD),v=.ref a/\d=.lst k/\H a=none/\N a=some (.lst c)/\IsL K N c k
def U9.back (h:U9 K f N v d)(e:aS H f):U9 K H N v d:=by
 cases d
 case tup=>obtain⟨a,c,q,y,z,r⟩:=h;exact⟨a,c,q,y,z,λi k g=>by obtain⟨b,o,w,M,O⟩:=r i k g;exact⟨b,o,w,e.free M,O⟩⟩
 all_goals obtain⟨a,c,D,q,y,z,r⟩:=h;exact⟨a,c,D,q,y,e.free z,r⟩
noncomputable def kE:LS:=["in_order","has_seal","is_first_death","bases_by","as_heard"]
noncomputable def uH (x:Str):Str:=x ++ ".<locals>." ++ "<lambda>"
def Tb (K:Frag)(B:Hp):Prop:=∀x∈kE,∀c P,PySem.W.tabIn K x=some (c,P)->B P=some (.tbl (uH x))
def Tb.mono (h:Tb K B)(e:aS B M):Tb K M:=λx hx c P q=>e _ _ (h x hx c P q)
structure fQ (K:Frag)(B:Hp)(σ:St)(ρ:Env):Prop where
 tb:Tb K B
 at':∀(i:Nat)(d:D)(b:Bool),ρ[i]? = some (some (d,b))->∃v,σ[i]? = some (some v)/\Is K B v d
def fQ.mono (h:fQ K B f g)(e:aS B M):fQ K M f g:=⟨h.tb.mono e,λi d b q=>let ⟨v,a,c⟩:=h.at' i d b q;⟨v,a,c.mono e⟩⟩
def Fin (K:Frag)(B H:Hp)(d:D)(b:Bool)(Q:VK):Prop:=∀(v:V)(a N:Hp),Ext B N H a->Is K N v d->(b=true->U9 K H N v d)->Q v a
def tD (K:Frag)(f:FE):TE:=λc H Q=>∃(B:Hp)(a:Env)(d:D)(b:Bool),aS B H/\fQ K B c a/\f a=some (d,b)/\Fin K B H d b Q
def Dk (K:Frag)(f:FT):TT:=λk H Q=>∃(B:Hp)(a:Env)(c:Bool),aS B H/\fQ K B k a/\f a=some c/\∀b,aS H b->Q c b
def UA (K:Frag)(f:FA):TA:=λo H Q=>∃(B:Hp)(a:Env)(b:LD),aS B H/\fQ K B o a/\f a=some b/\∀(c:LV)(k N:Hp),Ext B N H k->IsL K N c b->Q c k
def rD (K:Frag)(c:D->D->OB):R2:=λx y H Q=>∃(B:Hp)(a M d:D)(b:Bool),aS B H/\Is K B x a/\Is K B y M/\c a M=some (d,b)/\Fin K B H d b Q
def e5{G:Prop}(q:rD K a x y H Q)(k:∀B(c e d)b,aS B H->Is K B x c->Is K B y e->a c e=some (d,b)->Fin K B H d b Q->G):G:=by obtain⟨B,c,e,d,b,M,i,j,f,g⟩:=q;exact k B c e d b M i j f g
def rDU (K:Frag)(c:D->OB):V->Hp->VK->Prop:=λx H Q=>∃(B:Hp)(a d:D)(b:Bool),aS B H/\Is K B x a/\c a=some (d,b)/\Fin K B H d b Q
def yM (K:Frag)(c:LD->OB):LV->Hp->VK->Prop:=λk H Q=>∃(B:Hp)(a:LD)(d:D)(b:Bool),aS B H/\IsL K B k a/\c a=some (d,b)/\Fin K B H d b Q
def e6{G:Prop}(q:yM K c o H Q)(k:∀(B)a(d)b,aS B H->IsL K B o a->c a=some (d,b)->Fin K B H d b Q->G):G:=by obtain⟨B,a,d,b,M,i,e,f⟩:=q;exact k B a d b M i e f
theorem Fin.one (h:Fin K B H d false Q)(s:aS B H)(i:Is K B v d):Q v H:=h v H B (.refl s) i H9
def Fin.into (h:Fin K B H d b Q)(x:Ext B N H O):Fin K N O d b Q:=λv a c y i M=>h v a c (x.trans y) i λe=>(M e).back x.hh
@[simp] noncomputable def fC (d:D):FE:=λz=>some (d,false)
@[simp] noncomputable def ak (i:Nat):FE:=λa=>match a[i]? with|some (some (d,_))=>some (d,false)|_=>none
@[simp] noncomputable def f2 (b:D->D->OB)(c M:FE):FE:=λa=>(c a).bind λx=>(M a).bind λy=>b x.1 y.1
@[simp] noncomputable def f1 (a:D->OB)(b:FE):FE:=λc=>(b c).bind λx=>a x.1
@[simp] def aw:FA:=λz=>some []
@[simp] noncomputable def ao (b:FE)(M:FA):FA:=λa=>(b a).bind λx=>(M a).bind λc=>some (x.1::c)
@[simp] noncomputable def fA (a:LD->OB)(b:FA):FE:=λc=>(b c).bind a
set_option tactic.hygienic true in
def RQ (h:tD K (ak i) f H Q):∃v,f[i]? = some (some v)/\Q v H:=by
 obtain⟨B,k,d,b,s,r,e,q⟩:=h;unfold ak at e;split at e
 .rename_i o w M;cases e
  obtain⟨v,a,c⟩:=r.at' i _ _ M;exact⟨v,a,q.one s c⟩
 simp_all
def Nr (h:tD K (f2 g i j) f H Q):tD K i f H λx U=>tD K j f U λy k=>rD K g x y k Q:=by
 refine cX λu g'=>?_;obtain⟨B,o,d,b,s,r,e,q⟩:=h;apply g';refine eX e λx w e=>eX e λy a e=>?_;exact⟨B,o,x.1,x.2,s,r,w,λv U N M z u=>⟨N,o,y.1,y.2,M.nh,r.mono M.bn,a,λc k D O F u=>⟨D,x.1,y.1,d,b,O.nh,z.mono O.bn,F,e,q.into (M.trans O)⟩⟩⟩
def Nt (h:tD K (fA f g) i H Q):UA K g i H λa M=>yM K f a M Q:=by
 obtain⟨B,c,d,b,s,r,e,q⟩:=h;exact eX e λx k e=>⟨B,c,x,s,r,k,λv M N O o=>⟨N,x,d,b,O.nh,o,e,q.into O⟩⟩
def Nu (h:UA K aw d H Q):Q [] H:=by
 obtain⟨B,a,b,s,r,e,q⟩:=h;cases e
 exact q [] H B (.refl s) .nil
@[simp] noncomputable def aY (f:FE):FT:=λa=>match f a with|some (.bl c,_)=>some c|_=>none
@[simp] noncomputable def bJ (f g:FT):FT:=λa=>match f a with|some true=>g a|some false=>some false|none=>none
@[simp] noncomputable def gK (f g:FT):FT:=λa=>match f a with|some true=>some true|some false=>g a|none=>none
@[simp] noncomputable def kj (f:FT):FT:=λa=>(f a).map (!·)
open Classical in
noncomputable def dZ (H:Hp)(P:Addr->Prop):Hp:=λa=>if P a then none else H a
theorem cH (h:¬P a):dZ H P a=H a:=by unfold dZ;rw[if_neg h]
theorem BM (h:P a):dZ H P a=none:=by unfold dZ;rw[if_pos h]
theorem rW (h:dZ H P a=some o):¬P a/\H a=some o:=by
 grind[BM,cH]
def bN:aS (dZ H P) H:=λz z e=>(rW e).2
def eB (e:∀a o,H a=some o->¬P a->d a=some o/\¬M a):aS (dZ H P) (dZ d M):=λa o q=>by
 grind[rW,cH]
noncomputable def join (N b:Hp):Hp:=λa=>match N a with|some o=>some o|none=>b a
def fD:aS N (join N d):=λa o e=>by unfold join;rw[e]
def dJ (e:N a=none):join N d a=d a:=by unfold join;rw[e]
def own (b:St)(c:Env)(a:Addr):Prop:=∃(i:Nat)(d:D),c[i]? = some (some (d,true))/\b[i]? = some (some (V.ref a))
inductive Bx (K:Frag)(C:Hp):HO->D->Prop where
 |lst {vs:List V}{ds:List D}(h:IsL K C vs ds):Bx K C (.lst vs) (.lst ds)
 |dk {ks:List dH}{vs:List V}{ds:List D}(hl:ks.length=vs.length) (h:IsL K C vs ds) {ob:Obj}:Bx K C (.dK (ks.zip vs) ob) (.dk ks ds)
 |dt {ks:List (List dH)}{vs:List V}{ds:List D}(hl:ks.length=vs.length) (h:IsL K C vs ds):Bx K C (.dT (ks.zip vs)) (.dt ks ds)
def Bx.mono (h:Bx K C o d)(e:aS C M):Bx K M o d:=by
 cases h with
 |lst h=>exact .lst (h.mono e)
 |dk a h=>exact .dk a (h.mono e)
 |dt a h=>exact .dt a (h.mono e)
def Bx.is (h:Bx K C o d)(e:C a=some o):Is K C (.ref a) d:=by
 cases h with
 |lst h=>exact .lst (fW.of e) h
 |dk b h=>exact .dk e b h
 |dt b h=>exact .dt e b h
structure dG (K:Frag)(B0 H0 N H:Hp)(σ:St)(ρ:Env):Prop where
 bh:aS B0 H0
 tb:Tb K B0
 ext:Ext B0 N H0 H
 len:ρ.length=σ.length
 sh:∀(i:Nat)(d:D),ρ[i]? = some (some (d,false))->∃v,σ[i]? = some (some v)/\Is K (dZ N (own σ ρ)) v d
 ow:∀(i:Nat)(d:D),ρ[i]? = some (some (d,true))->∃(a:Addr)(o:HO),σ[i]? = some (some (V.ref a))/\N a=some o/\H0 a=none/\Bx K (dZ N (own σ ρ)) o d
 inj:∀(i j:Nat)(a:Addr)(d e:D),ρ[i]? = some (some (d,true))->ρ[j]? = some (some (e,true))->σ[i]? = some (some (V.ref a))->σ[j]? = some (some (V.ref a))->i=j
def xH (K:Frag)(a b H:Hp)(c:St)(k:Env):Prop:=∃N,dG K a b N H c k
section
variable {K:Frag}{B0 H0 N H H':Hp}{σ:St}{ρ:Env}
def dG.owL (s:dG K B0 H0 N H σ ρ)(i:Nat)(d:D)(q:ρ[i]? = some (some (.lst e,true)))(r:d=.lst e:=by rfl):∃(a:Addr)(c:LV)(k:LD),d=.lst k/\σ[i]? = some (some (V.ref a))/\N a=some (.lst c)/\H0 a=none/\IsL K (dZ N (own σ ρ)) c k:=by
 refine cX λy g'=>?_;obtain⟨a,o,w,z,F,b⟩:=s.ow i _ q;apply g';cases b with
 |lst b=>exact⟨a,_,e,r,w,z,F,b⟩
def boxed:HO->Prop
 |.lst _|.dK _ _|.dT _=>True
 |_=>False
def Bx.boxed (h:Bx K C o d):boxed o:=by cases h<;>exact trivial
def dG.owned (s:dG K B0 H0 N H σ ρ)(h:own σ ρ a):∃o,(N a=some o/\boxed o)/\H0 a=none:=by
 obtain⟨i,d,c,k⟩:=h;obtain⟨O,o,b,q,r,M⟩:=s.ow i d c;rw[k]at b;cases b;exact⟨o,⟨q,M.boxed⟩,r⟩
def dG.rep (s:dG K B0 H0 N H σ ρ):fQ K N σ ρ:=⟨s.tb.mono s.ext.bn,λi d b q=>by
 cases b with
 |false=>obtain⟨v,k,c⟩:=s.sh i d q;exact⟨v,k,c.mono bN⟩
 |true=>
  obtain⟨a,o,c,r,z,w⟩:=s.ow i d q;exact⟨_,c,(w.mono bN).is r⟩⟩
noncomputable def iI (ρ:Env):Env:=ρ.map λx=>match x with|some (d,false)=>some (d,false)|_=>none
def IQ {i:Nat}{d:D}(h:(iI ρ)[i]? = some (some (d,b))):b=false/\ρ[i]? = some (some (d,false)):=by
 unfold iI at h;rw[vA]at h;cases e:ρ[i]? with
 |none=>rw[e]at h;cases h
 |some x=>
  rw[e]at h;match x,h with
  |some (a,false),h=>cases h;exact⟨rr,rr⟩
  |some (a,true),h=>cases h
  |none,h=>cases h
def dG.tbC (s:dG K B0 H0 N H σ ρ):Tb K (dZ N (own σ ρ)):=λx hx c P q=>by
 have z:=s.tb.mono s.ext.bn x hx c P q;rw[cH]
 .exact z
 .intro y;obtain⟨o,⟨y,M⟩,w⟩:=s.owned y;rw[z]at y;cases y;exact M
def dG.repH (s:dG K B0 H0 N H σ ρ):fQ K (dZ N (own σ ρ)) σ (iI ρ):=⟨s.tbC,λi d b q=>by
 obtain⟨rfl,a⟩:=IQ q;exact s.sh i d a⟩
def dG.grow (s:dG K B0 H0 N H σ ρ)(x:Ext N f H H'):dG K B0 H0 f H' σ ρ:=by
 have c:aS (dZ N (own σ ρ)) _:=eB λa o e q=>⟨x.bn a o e,q⟩;refine⟨s.bh,s.tb,s.ext.trans x,s.len,λi d q=>?_,λi d q=>?_,s.inj⟩
 .obtain⟨v,k,b⟩:=s.sh i d q;exact⟨v,k,b.mono c⟩
 .obtain⟨a,o,b,r,w,z⟩:=s.ow i d q;exact⟨a,o,b,x.bn _ _ r,w,z.mono c⟩
def dG.growH (s:dG K B0 H0 N H σ ρ)(x:Ext (dZ N (own σ ρ)) d H H'):dG K B0 H0 (join N d) H' σ ρ/\aS d (dZ (join N d) (own σ ρ)):=by
 have M:Ext N (join N d) H H':=by
  refine⟨x.hh,fD,λa o e=>?_,λa o e=>?_⟩
  .cases q:N a with
   |some u=>
    have:join N d a=some u:=fD _ _ q;rw[this]at e;cases e;exact x.hh _ _ (s.ext.nh _ _ q)
   |none=>rw[dJ q]at e;exact x.nh _ _ e
  .cases q:N a with
   |some u=>
    simp_all[join]
   |none=>
    rw[dJ q]at e;rcases x.new a o e with z|z
    .have:=bN _ _ z;simp_all
    .exact .inr z
 refine⟨s.grow M,λa o e=>?_⟩;rcases x.new a o e with z|z
 .obtain⟨O,U⟩:=rW z;rw[cH O];exact fD _ _ U
 .have b:=s.ext.nh.free z;have:¬own σ ρ a:=λq=>by obtain⟨c,⟨q,y⟩,y⟩:=s.owned q;simp_all
  simp_all[cH,dJ]
noncomputable def unown (ρ:Env):Env:=ρ.map λx=>x.map λy=>(y.1,false)
def lC {i:Nat}(h:(unown ρ)[i]? = some (some (d,b))):b=false/\∃c,ρ[i]? = some (some (d,c)):=by
 unfold unown at h;simp_all<;>lia
def p5:¬own σ (unown ρ) a:=λ⟨i,d,h,_⟩=>by
 obtain⟨z,y⟩:=lC h;cases z
def dG.unown (s:dG K B0 H0 N H σ ρ):dG K B0 H0 N H σ (unown ρ):=by
 refine⟨s.bh,s.tb,s.ext,by unfold DL.unown;rw[vI];exact s.len,λi d q=>?_,λi d q=>?_,λi j a d e q=>?_⟩
 .obtain⟨_,c,q⟩:=lC q;obtain⟨v,b,k⟩:=s.rep.at' i d c q;exact⟨v,b,k.mono λa o e=>by rw[cH p5];exact e⟩
 .obtain⟨z,_⟩:=lC q;cases z
 .obtain⟨z,_⟩:=lC q;cases z
def bZ {a:Type}{l:List a}{x y:a}(h:(l.set i x)[j]? = some y):(i=j/\x=y)\/(i≠j/\l[j]? = some y):=by
 by_cases e:i=j
 .subst e;rw[List.getElem?_set]at h;split at h
  .split at h
   .exact .inl ⟨rr,vK h⟩
   .cases h
  .contradiction
 .rw[vB e]at h;exact .inr ⟨e,h⟩
def vy {a M:Type}{l:List a}{m:List M}{x y:a}(h:(l.set i x)[i]? = some y)(e:l.length=m.length):i<m.length:=by
 obtain⟨h,z⟩:=vV h;rw[length_set]at h;simp_all
def xI(h:own (σ.set i (some v)) (ρ.set i x) a):(v=.ref a/\∃d,x=some (d,true))\/∃j,j≠i/\∃d,ρ[j]? = some (some (d,true))/\σ[j]? = some (some (V.ref a)):=by
 obtain⟨j,d,o,k⟩:=h;rcases bZ o with⟨e,q⟩|⟨e,q⟩
 .rcases bZ k with⟨b,c⟩|⟨b,c⟩
  .cases c;exact .inl ⟨rr,d,q⟩
  .exact absurd e b
 .rcases bZ k with⟨b,c⟩|⟨b,c⟩
  .exact absurd b e
  .exact .inr ⟨j,λz=>e z.symm,d,q,c⟩
def dG.bind (s:dG K B0 H0 N H σ ρ){i:Nat}{v:V}{d:D}(h:Is K (dZ N (own σ ρ)) v d):dG K B0 H0 N H (σ.set i (some v)) (ρ.set i (some (d,false))):=by
 have o:∀a,own (σ.set i (some v)) (ρ.set i (some (d,false))) a->own σ ρ a:=λa q=>by
  rcases xI q with⟨y,R,p⟩|⟨j,y,R,U,S⟩
  .cases p
  .exact⟨j,R,U,S⟩
 have c:aS (dZ N _) _:=eB λa u e q=>⟨e,λz=>q (o a z)⟩;refine⟨s.bh,s.tb,s.ext,by simp[s.len],λj e q=>?_,λj e q=>?_,λj k a e f q b F r=>?_⟩
 .rcases bZ q with⟨rfl,p⟩|⟨P,p⟩
  .cases p
   have W:=vy q s.len;exact⟨v,by simp[W],h.mono c⟩
  .obtain⟨w,F,r⟩:=s.sh j e p;exact⟨w,by simp_all,r.mono c⟩
 .rcases bZ q with⟨rfl,p⟩|⟨P,p⟩
  .cases p
  .obtain⟨a,o,F,r,X,Z⟩:=s.ow j e p;exact⟨a,o,by simp_all,r,X,Z.mono c⟩
 .rcases bZ q with⟨rfl,p⟩|⟨P,p⟩
  .cases p
  .rcases bZ b with⟨rfl,M⟩|⟨O,M⟩
   .cases M
   .rw[vB P]at F;rw[vB O]at r;exact s.inj j k a e f p M F r
def dG.bindOwn (s:dG K B0 H0 N H σ ρ){i:Nat}{a:Addr}{S:HO}{W:D}(r:N a=some S)(X:H0 a=none)(O:∀(j:Nat)(d:D),ρ[j]? = some (some (d,true))->σ[j]? ≠ some (some (V.ref a)))
  (h:∀(j:Nat)(d:D),j≠i->ρ[j]? = some (some (d,false))->∃v,σ[j]? = some (some v)/\Is K (dZ N (λb=>own σ ρ b\/b=a)) v d) (l:∀(j:Nat)(d:D),j≠i->ρ[j]? = some (some (d,true))->∃(U:Addr)(o:HO),σ[j]? = some (some (V.ref U))/\N U=some o/\Bx K (dZ N (λb=>own σ ρ b\/b=a)) o d)
  (m:Bx K (dZ N (λb=>own σ ρ b\/b=a)) S W):dG K B0 H0 N H (σ.set i (some (.ref a))) (ρ.set i (some (W,true))):=by
 have o:∀b,own (σ.set i (some (V.ref a))) (ρ.set i (some (W,true))) b->own σ ρ b\/b=a:=λb q=>by
  rcases xI q with⟨p,Y⟩|⟨j,Y,Z,t,E⟩
  .cases p;exact .inr rr
  .exact .inl ⟨j,Z,t,E⟩
 have c:aS (dZ N _) _:=eB λb u e q=>⟨e,λz=>q (o b z)⟩;refine⟨s.bh,s.tb,s.ext,by simp[s.len],λj e q=>?_,λj e q=>?_,λj k b e f q n P F=>?_⟩
 .rcases bZ q with⟨rfl,p⟩|⟨R,p⟩
  .cases p
  .obtain⟨w,P,F⟩:=h j e (Ne.symm R) p;exact⟨w,by simp_all,F.mono c⟩
 .rcases bZ q with⟨rfl,p⟩|⟨R,p⟩
  .cases p
   have G:=vy q s.len;exact⟨a,S,by simp[G],r,X,m.mono c⟩
  .obtain⟨U,I,P,F,J⟩:=l j e (Ne.symm R) p;have L:H0 U=none:=by
    obtain⟨A,Y,B,Y,C,Y⟩:=s.ow j e p;simp_all
   exact⟨U,I,by simp_all,F,L,J.mono c⟩
 .rcases bZ q with⟨rfl,p⟩|⟨R,p⟩
  .rcases bZ n with⟨rfl,g⟩|⟨M,g⟩
   .rfl
   .rw[vB M]at F;have x:V.ref a=V.ref b:=by
     rcases bZ P with⟨Y,z⟩|⟨z,Y⟩
     .exact vK z
     .exact absurd rr z
    cases x
    exact absurd F (O k f g)
  .rcases bZ n with⟨rfl,g⟩|⟨M,g⟩
   .rw[vB R]at P;have y:V.ref a=V.ref b:=by
     rcases bZ F with⟨Y,z⟩|⟨z,Y⟩
     .exact vK z
     .exact absurd rr z
    cases y
    exact absurd P (O j e p)
   .rw[vB R]at P;rw[vB M]at F;exact s.inj j k b e f p g P F
end
set_option genInjectivity true in
inductive Res where
 |nx (ρ:Env)|rt (d:D) (b:Bool)|bk (ρ:Env)|ct (ρ:Env)
abbrev FS:=Env->Option Res
def VM (K:Frag)(o c:Hp)(E:Ends):Res->Prop
 |.nx k=>∀a H,xH K o c H a k->E.nx a H
 |.rt d b=>∀v H N,Ext o N c H->Is K N v d->(b=true->U9 K c N v d)->E.rt v H
 |.bk k=>∀a H,xH K o c H a k->E.bk a H
 |.ct k=>∀a H,xH K o c H a k->E.ct a H
def nH (K:Frag)(g:FS):TS:=λE k H=>∃(a b:Hp)(c:Env)(r:Res),xH K a b H k c/\g c=some r/\VM K a b E r
section
variable {K:Frag}{B0 H0 N H H':Hp}{σ:St}{ρ:Env}{E:Ends}
def dG.writeB (s:dG K B0 H0 N H σ ρ)(P:ρ[i]? = some (some (d,true)))(M:σ[i]? = some (some (V.ref a)))(h:Bx K (dZ N (own σ ρ)) ob t):
  dG K B0 H0 (upd N a ob) (upd H a ob) σ (ρ.set i (some (t,true))):=by
 have X:own σ ρ a:=⟨i,d,P,M⟩;obtain⟨A,B,W⟩:=s.owned X;have l:B0 a=none:=s.bh.free W;have o:∀b,own σ (ρ.set i (some (t,true))) b↔own σ ρ b:=λb=>by
  constructor
  .rintro⟨j,e,O,w⟩;rcases bZ O with⟨rfl,p⟩|⟨Y,p⟩
   .exact⟨i,d,P,w⟩
   .exact⟨j,e,p,w⟩
  .rintro⟨j,e,O,w⟩;by_cases z:i=j
   .subst z;exact⟨i,t,by rw[getElem?_set_self (vV P).1],w⟩
   .exact⟨j,e,by simp_all,w⟩
 have c:aS (dZ N (own σ ρ)) (dZ (upd N a ob) (own σ (ρ.set i (some (t,true))))):=eB λb u e q=>by
  have R:b≠a:=λz=>q (z ▸ X);exact⟨by rw[a8 R];exact e,λz=>q ((o b).mp z)⟩
 refine⟨s.bh,s.tb,⟨λb u e=>?_,λb u e=>?_,λb u e=>?_,λb u e=>?_⟩,by rw[length_set];exact s.len,λj e q=>?_,λj e q=>?_,λj k b e f q m F S=>?_⟩
 .rw[a8 (λz=>by subst z;rw[W]at e;cases e)];exact s.ext.hh _ _ e
 .rw[a8 (λz=>by subst z;rw[l]at e;cases e)];exact s.ext.bn _ _ e
 .by_cases z:b=a
  .simp_all[av]
  .rw[a8 z]at e |-;exact s.ext.nh _ _ e
 .by_cases z:b=a
  .subst z;exact .inr W
  .rw[a8 z]at e;exact s.ext.new _ _ e
 .rcases bZ q with⟨rfl,p⟩|⟨R,p⟩
  .cases p
  .obtain⟨v,F,S⟩:=s.sh j e p;exact⟨v,F,S.mono c⟩
 .rcases bZ q with⟨rfl,p⟩|⟨R,p⟩
  .cases p
   exact⟨a,ob,M,av,W,h.mono c⟩
  .obtain⟨g,Z,F,S,x,y⟩:=s.ow j e p;have n:g≠a:=λz=>by subst z;exact R (s.inj i j _ d e P p M F)
   exact⟨g,Z,F,by rw[a8 n];exact S,x,y.mono c⟩
 .have get:∀ {j:Nat}{e:D},(ρ.set i (some (t,true)))[j]? = some (some (e,true))->∃U,ρ[j]? = some (some (U,true)):=λ{j e} q=>by
   rcases bZ q with⟨rfl,p⟩|⟨R,p⟩
   .exact⟨d,P⟩
   .exact⟨e,p⟩
  obtain⟨U,O⟩:=get q;obtain⟨r,w⟩:=get m;exact s.inj j k b U r O w F S
def dG.write (s:dG K B0 H0 N H σ ρ)(b:ρ[i]? = some (some (d,true)))(M:σ[i]? = some (some (V.ref a)))(h:IsL K (dZ N (own σ ρ)) e f):
  dG K B0 H0 (upd N a (.lst e)) (upd H a (.lst e)) σ (ρ.set i (some (.lst f,true))):=s.writeB b M (.lst h)
def dG.tups (s:dG K B0 H0 N H σ ρ):∀a b,iH K N a b->iH K (dZ N (own σ ρ)) a b:=λa b h=>by
 have M:∀u,N a=some u->¬boxed u->dZ N (own σ ρ) a=some u:=λu e c=>by
  rw[cH λz=>?_];exact e;obtain⟨k,⟨q,O⟩,y⟩:=s.owned z;simp_all
 rcases h with (h|⟨o,h⟩)|h
 .exact .inl (.inl (M _ h (λq=>q)))
 .exact .inl (.inr ⟨o,M _ h (λq=>q)⟩)
 .exact .inr h
def dG.flat (s:dG K B0 H0 N H σ ρ)(h:Is K N v d)(n:bi d=true):Is K (dZ N (own σ ρ)) v d:=h.keepT s.tups n
def dG.flats (s:dG K B0 H0 N H σ ρ)(h:IsL K N v d)(n:aU d=true):IsL K (dZ N (own σ ρ)) v d:=h.keepT s.tups n
def dG.rebase (s:dG K B0 H0 N H σ ρ):dG K (dZ N (own σ ρ)) (dZ H (own σ ρ)) N H σ ρ:=
 ⟨eB λa o e q=>⟨s.ext.nh _ _ e,q⟩,s.tbC,⟨bN,bN,s.ext.nh,λa o e=>by
  grind[BM,cH]⟩,s.len,s.sh,λi d q=>by
   obtain⟨a,o,b,c,z,k⟩:=s.ow i d q;exact⟨a,o,b,c,BM ⟨i,d,q,b⟩,k⟩,s.inj⟩
@[simp] noncomputable def ce (g h:FS):FS:=λρ=>match g ρ with|some (.nx a)=>h a|r=>r
@[simp] def mv:FS:=λρ=>some (.nx ρ)
@[simp] noncomputable def yN (c:FT)(g h:FS):FS:=λρ=>match c ρ with|some true=>g ρ|some false=>h ρ|none=>none
@[simp] noncomputable def za (f:FE):FS:=λρ=>(f ρ).map λx=>.rt x.1 x.2
@[simp] noncomputable def IS:D->Bool
 |.dk _ _=>true
 |.dt _ _=>true
 |_=>false
@[simp] def qt (i:Nat):FS:=λρ=>match ρ[i]? with|some (some (d,b))=>some (.rt d (b && !IS d))|_=>none
@[simp] def zb:D->Bool
 |.lst a=>aU a
 |_=>false
@[simp] def setE (ρ:Env)(i:Nat)(d:D)(b:Bool):Env:=
 if bi d=true then ρ.set i (some (d,false))else if b=true/\zb d=true then ρ.set i (some (d,true))else (unown ρ).set i (some (d,false))
@[simp] def dq (i:Nat)(f:FE):FS:=λρ=>(f ρ).map λx=>.nx (setE ρ i x.1 x.2)
@[simp] def Dl (i:Nat)(f:FE):FS:=λρ=>(f (iI ρ)).map λx=>.nx (ρ.set i (some (x.1,false)))
@[simp] noncomputable def rX (i:Nat)(f:FE):FS:=λρ=>match ρ[i]? with
 |some (some (.lst a,true))=>(f ρ).bind λx=>if bi x.1=true/\a.length<sizeLine then some (.nx (ρ.set i (some (.lst (a++[x.1]),true))))else none
 |_=>none
def IT (q:nH K mv E σ H):Qn E σ H:=by
 obtain⟨B0,H0,ρ,r,s,e,p⟩:=q;cases e
 exact p σ H s
def xH.grown (s:dG K B0 H0 N H σ ρ)(h:aS H H'):xH K B0 H0 H' σ ρ:=⟨N,s.grow (.grow s.ext.nh h)⟩
set_option tactic.hygienic true in
def IU (q:nH K (qt i) E σ H):Rx (Ie i) E σ H:=by
 obtain⟨B0,H0,ρ,r,⟨N,s⟩,e,p⟩:=q;unfold qt at e;split at e
 .rename_i d b D;cases e
  cases b with
  |false=>
   obtain⟨v,w,k⟩:=s.sh i d D;exact⟨v,w,p v H N s.ext (k.mono bN) H9⟩
  |true=>
   obtain⟨a,o,w,k,F,c⟩:=s.ow i d D;cases c with
   |lst c=>exact⟨_,w,p _ H N s.ext (.lst (fW.of k) (c.mono bN)) λ_=>⟨a,_,_,rr,rr,F,k,c.mono bN⟩⟩
   |dk z c=>exact⟨_,w,p _ H N s.ext (.dk k z (c.mono bN)) H9⟩
   |dt z c=>exact⟨_,w,p _ H N s.ext (.dt k z (c.mono bN)) H9⟩
 simp_all
def dG.setE (s:dG K B0 H0 N H σ ρ)(x:Ext N n H p)(h:Is K n v d)(f:b=true->U9 K H n v d):dG K B0 H0 n p (σ.set i (some v)) (setE ρ i d b):=by
 have D:=s.grow x;unfold DL.setE;by_cases P:bi d=true
 .rw[if_pos P];exact D.bind (D.flat h P)
 .rw[if_neg P];by_cases F:b=true/\zb d=true
  .rw[if_pos F];obtain⟨V,rfl⟩:∃V,d=.lst V:=by cases d<;>first|exact⟨_,rr⟩|(simp at F)
   obtain⟨a,C,G,rfl,z,W,O,X⟩:=f F.1;cases z
   have U:N a=none:=s.ext.nh.free W;have g:¬own σ ρ a:=λz=>by obtain⟨Z,⟨q,Y⟩,Y⟩:=s.owned z;simp_all
   have c:aS (dZ N (own σ ρ)) (dZ n (λb=>own σ ρ b\/b=a)):=eB λb u e q=>⟨x.bn _ _ e,λz=>z.elim q λz=>by subst z;rw[U]at e;cases e⟩;refine D.bindOwn O (s.ext.hh.free W) (λj e q z=>g ⟨j,e,q,z⟩) (λj e Y q=>?_) (λj e Y q=>?_) (.lst (X.keepT (λt l r=>?_) F.2))
   .obtain⟨w,R,S⟩:=s.sh j e q;exact⟨w,R,S.mono c⟩
   .obtain⟨k,y,R,S,_,A⟩:=s.ow j e q;exact⟨k,y,R,x.bn _ _ S,A.mono c⟩
   .have M:∀u,n t=some u->¬boxed u->dZ n (λb=>own σ ρ b\/b=a) t=some u:=λu e B=>by
     rw[cH λz=>?_];exact e;rcases z with z|z
     .obtain⟨Z,⟨q,m⟩,_⟩:=D.owned z;simp_all
     .subst z;rw[e]at O;cases O;exact B trivial
    rcases r with (r|⟨o,r⟩)|r
    .exact .inl (.inl (M _ r (λq=>q)))
    .exact .inl (.inr ⟨o,M _ r (λq=>q)⟩)
    .exact .inr r
  .rw[if_neg F];exact D.unown.bind (h.mono λa o e=>by rw[cH p5];exact e)
def Dm (q:nH K (dq i f) E σ H):B8 (tD K f) (jm i) E σ H:=by
 obtain⟨B0,H0,ρ,r,⟨N,s⟩,e,p⟩:=q;refine eS e λx a e=>?_;subst e;exact⟨N,ρ,x.1,x.2,s.ext.nh,s.rep,a,λv M b O c f1=>p _ M ⟨b,s.setE O c f1⟩⟩
def Nx (q:nH K (rX i f) E σ H):∃(a:Addr)(R:LV),σ[i]? = some (some (V.ref a))/\H a=some (.lst R)/\Qs (tD K f) V5 σ H λS W=>Di (.ref a) S W λ_ b=>E.nx σ b:=by
 refine cX λ_ g'=>?_;obtain⟨B0,H0,ρ,r,⟨N,s⟩,e,p⟩:=q;apply g';unfold rX at e;split at e
 .rename_i l k;refine eX e λx X e=>?_;split at e
  .rename_i hx;cases e
   refine cX λ_ g'=>?_;obtain⟨a,F,M,z,o,w,m,Z⟩:=s.owL i _ k;apply g';cases z
   refine⟨a,F,o,s.ext.nh _ _ w,N,ρ,x.1,x.2,s.ext.nh,s.rep,X,λv d n O j f1=>⟨a,F,v,rr,rr,O.hh _ _ (s.ext.nh _ _ w),by rw[Z.length];exact hx.2,?_⟩⟩;have D:=s.grow O;refine cX λ_ g'=>?_;obtain⟨g,h,M,z,U,P,_,c⟩:=D.owL i _ k;apply g';cases z
   rw[o]at U;cases U;rw[O.bn _ _ w]at P;cases P;exact p σ _ ⟨_,D.write k o (c.append (.cons (D.flat j hx.1) .nil))⟩
  simp_all
 simp_all
end
noncomputable def cy (c:FT)(g:FS):Nat->Env->Option Res
 |0,_=>none
 |n+1,b=>match c b with
  |some true=>match g b with
   |some (.nx a)=>cy c g n a
   |some (.ct a)=>cy c g n a
   |some (.bk a)=>some (.nx a)
   |r=>r
  |some false=>some (.nx b)
  |none=>none
def Gp (q:nH K (cy c g n) E h H):Il (Dk K c) (nH K g) E h H:=by
 obtain⟨F,P,k,r,s,e,p⟩:=q;refine⟨λm h H=>∃k,xH K F P H h k/\cy c g m k=some r,⟨n,k,s,e⟩,?_⟩;rintro m h H ⟨k,⟨N,s⟩,e⟩;cases m with
 |zero=>cases e
 |succ m=>
  unfold cy at e;cases O:c k with
  |none=>rw[O]at e;cases e
  |some b=>
   rw[O]at e;refine⟨N,k,b,s.ext.nh,s.rep,O,λf R=>?_⟩;cases b with
   |false=>rw[if_neg I9];cases e;exact p h f (.grown s R)
   |true=>
    refine⟨λh H=>∃k,xH K F P H h k/\cy c g m k=some r,λM D w=>⟨m,Nat.lt_succ_self m,w⟩,?_⟩;cases U:g k with
    |none=>rw[U]at e;cases e
    |some a=>
     rw[U]at e;refine⟨F,P,k,a,.grown s R,U,?_⟩;cases a with
     |nx o=>exact λM D z=>⟨o,z,e⟩
     |ct o=>exact λM D z=>⟨o,z,e⟩
     |bk o=>cases e;exact λM D=>p M D
     |rt d b=>cases e;exact p
def mD (K:Frag)(J:It)(B:Hp)(a:LD):Prop:=∀(i:Nat)(H:Hp),aS B H ->
 (∀d,a[i]? = some d->J.go i H/\∀x b,J.yld i H x b->∃N,Ext B N H b/\Is K N x d)/\(a.length<=i->J.stop i H)
def tDI (K:Frag)(f:FA):TI:=λk H R=>∃(B:Hp)(a:Env)(b:LD),aS B H/\fQ K B k a/\f a=some b/\∀(J:It)(c N:Hp),Ext B N H c->mD K J N b->R J c
abbrev FG:=D->Env->Option Env
def M8 (K:Frag)(r:FG)(g:TG):Prop:=∀(k o N H:Hp)(b:St)(c a:Env)(v:V)(d:D)(Q:St->Hp->Prop),dG K k o N H b c->Is K (dZ N (own b c)) v d->r d c=some a ->
 (∀M q,xH K k o q M a->Q M q)->g v b H Q
@[simp] noncomputable def eA (i:Nat):FG:=λd a=>some (a.set i (some (d,false)))
def IW:M8 K (eA i) (jm i):=by
 intro b c N H o q a v d Q s h e k;cases e
 exact k _ H ⟨N,s.bind h⟩
noncomputable def fX (b:FG)(g:FS):LD->Env->Option Res
 |[],c=>some (.nx c)
 |d::k,c=>(b d c).bind λM=>match g M with
  |some (.nx a)=>fX b g k a
  |some (.ct a)=>fX b g k a
  |some (.bk a)=>some (.nx a)
  |r=>r
@[simp] def rY b(g)a:fX b g [] a=some (.nx a):=by rw[fX]
@[simp] theorem p6 (b)g d(c)k:fX b g (d::c) k=(b d k).bind λM=>match g M with
  |some (.nx a)=>fX b g c a
  |some (.ct a)=>fX b g c a
  |some (.bk a)=>some (.nx a)
  |r=>r:=by rw[fX]
@[simp] def zc (f:FA)(b:FG)(g:FS):FS:=λa=>(f (iI a)).bind λc=>fX b g c a
def zd (w:M8 K tg t)(s1:dG K B0 H0 N H1 σ Y)(c:aS N1 (dZ N (own σ Y)))(J1:mD K J N1 ds)(e:fX tg g ds Y=some r)(p:VM K B0 H0 E r):
  ∃W:Nat->Nat->St->Hp->Prop,(∃m,W 0 m σ H1)/\∀i m σ H,W i m σ H->(J.stop i H/\E.nx σ H)\/(J.go i H/\∃N:St->Hp->Prop,(∀M Z,N M Z->∃l,l<m/\W (i+1) l M Z)/\∀x Z,J.yld i H x Z->t x σ Z λf H2=>nH K g { E with nx:=N,ct:=N,bk:=E.nx } f H2):=by
 refine⟨λi m σ H=>∃(N:Hp)(Y:Env),dG K B0 H0 N H σ Y/\aS N1 (dZ N (own σ Y))/\m=ds.length - i/\i<=ds.length/\fX tg g (ds.drop i) Y=some r,⟨ds.length,_,Y,s1,c,rr,uN _,e⟩,?_⟩;clear e s1 c;rintro i m σ H ⟨N,Y,s,c,rfl,hi,e⟩;have hs:aS N1 H:=c.trans (bN.trans s.ext.nh);obtain⟨A,B⟩:=J1 i H hs;by_cases O:i<ds.length
 .obtain⟨go,C⟩:=A ds[i] (by simp[O]);rw[List.drop_eq_getElem_cons O]at e;refine eX e λh D e=>?_;refine .inr ⟨go,λM Z=>∃(N:Hp)(Y:Env),dG K B0 H0 N Z M Y/\aS N1 (dZ N (own M Y))/\fX tg g (ds.drop (i+1)) Y=some r,λM Z ⟨N',ρ',s',F,G⟩=>⟨_,O_,N',ρ',s',F,rr,O,G⟩,λx Z y=>?_⟩;obtain⟨N2,U,i2⟩:=C x Z y;have I:Ext (dZ N (own σ Y)) (join (dZ N (own σ Y)) N2) H Z:=by
   refine⟨U.hh,fD,λa o e=>?_,λa o e=>?_⟩
   .cases q:dZ N (own σ Y) a with
    |some u=>rw[fD _ _ q]at e;cases e;exact U.hh _ _ (s.ext.nh _ _ (bN _ _ q))
    |none=>rw[dJ q]at e;exact U.nh _ _ e
   .cases q:dZ N (own σ Y) a with
    |some u=>rw[fD _ _ q]at e;simp_all
    |none=>
     rw[dJ q]at e;rcases U.new a o e with z|z
     .rw[c _ _ z]at q;cases q
     .exact .inr z
  obtain⟨s2,c2⟩:=s.growH I;have c3:aS N2 (join (dZ N (own σ Y)) N2):=λa o e=>by
   rcases U.new a o e with z|z
   .exact fD _ _ (c _ _ z)
   .rw[dJ ((bN.trans s.ext.nh).free z)];exact e
  have L:=i2.mono (c3.trans c2);have P:aS N1 (dZ (join N (join (dZ N (own σ Y)) N2)) (own σ Y)):=(U.bn.trans c3).trans c2;refine w _ _ _ _ _ _ _ _ _ _ s2.rebase L D λf H2 ⟨Q,R⟩=>?_;cases k:g h with
  |none=>rw[k]at e;cases e
  |some n=>
   rw[k]at e;refine⟨_,_,h,n,⟨Q,R⟩,k,?_⟩;have back:∀ {M:St}{Z:Hp}{ρ':Env}{N':Hp},dG K _ _ N' Z M ρ'->dG K B0 H0 N' Z M ρ'/\aS N1 (dZ N' (own M ρ')):=λt=>⟨by
    have b:aS H0 (dZ Z (own σ Y)):=λa o e=>by
     rw[cH λz=>?_];exact s2.ext.hh _ _ e;obtain⟨_,_,q⟩:=s2.owned z;lia
    have M:aS B0 (dZ (join N (join (dZ N (own σ Y)) N2)) (own σ Y)):=λa o e=>by
     rw[cH λz=>?_];exact s2.ext.bn _ _ e;obtain⟨_,_,q⟩:=s2.owned z;rw[s2.bh _ _ e]at q;cases q
    refine⟨s2.bh,s2.tb,⟨b.trans t.ext.hh,M.trans t.ext.bn,t.ext.nh,λa o e=>?_⟩,t.len,t.sh,λi d q=>?_,t.inj⟩
    .rcases t.ext.new a o e with z|z
     .exact s2.ext.new a o (bN _ _ z)
     .exact .inr (b.free z)
    .obtain⟨a,o,c,k,r,w⟩:=t.ow i d q;exact⟨a,o,c,k,b.free r,w⟩,P.trans λa o e=>by
    rw[cH λz=>?_];exact t.ext.bn _ _ e;obtain⟨_,_,q⟩:=t.owned z;rw[t.bh _ _ e]at q;cases q⟩;cases n with
   |nx ρ'=>exact λM Z ⟨N',t⟩=>⟨N',ρ',(back t).1,(back t).2,e⟩
   |ct ρ'=>exact λM Z ⟨N',t⟩=>⟨N',ρ',(back t).1,(back t).2,e⟩
   |bk ρ'=>cases e;exact λM Z ⟨N',t⟩=>p M Z ⟨N',(back t).1⟩
   |rt d b=>
    cases e
    intro v Z N' j S T;have y:=s2.rebase.ext;have h0:aS H0 (dZ Z (λ_=>False)):=λa o e=>by rw[cH (λz=>z)];exact j.hh _ _ (by
     rw[cH λz=>?_];exact s2.ext.hh _ _ e;obtain⟨_,_,q⟩:=s2.owned z;lia)
    have V:aS H0 (dZ Z (λ_=>False)):=h0;have X:aS H0 (dZ Z (λ_=>False)):=h0;have hc:∀a,dZ Z (λ_=>False) a=Z a:=λa=>cH (λz=>z);have hb:aS H0 (dZ _ (own σ Y)):=λa o e=>by
     rw[cH λz=>?_];exact s2.ext.hh _ _ e;obtain⟨_,_,q⟩:=s2.owned z;lia
    have bb:aS B0 (dZ _ (own σ Y)):=λa o e=>by
     rw[cH λz=>?_];exact s2.ext.bn _ _ e;obtain⟨_,_,q⟩:=s2.owned z;rw[s2.bh _ _ e]at q;cases q
    refine p v Z N' ⟨hb.trans j.hh,bb.trans j.bn,j.nh,λa o e=>?_⟩ S λz=>(T z).back hb;rcases j.new a o e with z|z
    .exact s2.ext.new a o (bN _ _ z)
    .exact .inr (hb.free z)
 .have ei:i=ds.length:=N9
  subst ei;rw[List.drop_eq_nil_of_le (vT _)]at e;cases e
  exact .inl ⟨B (vT _),p σ H ⟨N,s⟩⟩
def Ny (M:M8 K h t)(q:nH K (zc f h g) E d H):R1 (tDI K f) t (nH K g) E d H:=by
 obtain⟨z,D,b,r,⟨N,s⟩,e,p⟩:=q;refine eX e λk O e=>⟨dZ N (own d b),iI b,k,bN.trans s.ext.nh,s.repH,O,λJ a F U o=>?_⟩;obtain⟨w,c⟩:=s.growH U;exact zd M w c o e p
def VN (K:Frag)(f:FA):TI:=λk H R=>∃(B:Hp)(a:Env)(b:LD),aS B H/\fQ K B k a/\f a=some b/\∀(J:It)(c N:Hp),Ext B N H c->(∀M,mD K J M b)->R J c
@[simp] def rZ (f:FA)(b:FG)(g:FS):FS:=λa=>(f a).bind λc=>fX b g c a
def IX (M:M8 K d t)(q:nH K (rZ f d g) E h H):R1 (VN K f) t (nH K g) E h H:=by
 obtain⟨o,w,b,r,⟨N,s⟩,e,p⟩:=q;refine eX e λc O e=>?_;exact⟨N,b,c,s.ext.nh,s.rep,O,λJ a z U k=>zd M (s.grow U) (aS.refl _) (k _) e p⟩
end DL
namespace DL
open PySem PySem.Spec PyProof.Rows L2
abbrev JE (X:Cx)(e:Expr)(f:FE):Prop:=PE X e (tD X.K f)
abbrev JT (X:Cx)(e:Expr)(f:FT):Prop:=PT X e (Dk X.K f)
abbrev JW (X:Cx)(e:Expr)(f:FT):Prop:=PW X e (Dk X.K f)
abbrev JA (X:Cx)(a:QD)(f:FA):Prop:=PA X a (UA X.K f)
abbrev JS (X:Cx)(a:Stmt)(g:FS):Prop:=PS X a (nH X.K g)
abbrev ze (X:Cx)(a:List Stmt)(g:FS):Prop:=vn X a (nH X.K g)
abbrev JI (X:Cx)(a M:Expr)(f:FA):Prop:=PI X a M (tDI X.K f)
def RT (M:Model)(A:Around)(U:QD)(a:Expr)(k:PySem.Env)(b:Value)(E:QV)(P:Shared->Prop):Shared->Prop:=
 wpAny M A (forIn U true λc r=>if r=true then do let o <-isTrue c k (eval c k);pure (ForInStep.yield o)else pure (ForInStep.yield r))
  (λo O=>if o=true then wpAny M A (eval a k) (λx=>wpAny M A (call (.builtin "list.append") [b,x]) (λz=>P) E) E O else P O) E
def xJ {E:QV}(i:∀x s,¬E x s)(I:Nat->Shared->Prop)
  (j:∀n s,I n s->wpAny (model l w) A (pyNext u) (λr M=>match r with
   |none=>R (.ok .next) M
   |some v=>wpAny (model l w) A (letOwnedTupleGo y u v) (λo=>wpAny (model l w) A (assign y p v) (λo=>RT (model l w) A B C p G E λs=>∃m,m<n/\I m s) E) E M) E s)
  (n:Nat) (h:I n s):codeAny (model l w) A (.compLoop (.ListComp C [⟨y,L,B,0⟩] t H) 0 u G p) R s:=by
 refine codeAny_loop rr I (λn s k=>?_) n h;refine wpAny_noted (wpAny_mono (E:=E) ?_ (λo o q=>q) λo o z=>(i _ _ z).elim);rw[compTurn_list];refine wX (wpAny_standAt (wX (bY (j n s k) λr M O=>?_)));cases r with
 |none=>exact wY O
 |some v=>
  refine wX (bY O λo M O=>wX (bY O λo d a=>wX (bY a λJ e U=>?_)));cases J with
  |false=>exact wY ⟨rr,U⟩
  |true=>exact wX (wX (bY U λx f b=>wX (bY b λo g c=>wY (wY ⟨rr,c⟩))))
theorem Ext.upd (x:Ext B N H d)(h:H a=none)(M:N a=none):Ext B N H (upd d a o):=
 ⟨λb u e=>by rw[a8 (λz=>by subst z;rw[h]at e;cases e)];exact x.hh _ _ e,x.bn,λb u e=>by rw[a8 (λz=>by subst z;rw[M]at e;cases e)];exact x.nh _ _ e,x.new⟩
noncomputable abbrev jc (X:Cx)(b:LS)(a:Scope)(c:List (Str×Addr))(C:Addr)(M:Shared)(O:Hp)(k:List Addr):Cx:=
 { X with N:=b,s₀:=M,H₀:=O,env:=compEnvC a c C X.env,outer:=X.stack,stack:=X.stack,ex:=k,fn:=λz=>false,pn:=[],xe:=λz z=>False }
inductive n8 (X:Cx)(N':List Str)(scope:Scope)(cl:List (Str×Addr)):Nat->List Nat->Prop where
 |nil {j:Nat}(h:N'.length=j):n8 X N' scope cl j []
 |cons {j i:Nat}{r:List Nat}{x:Str}(h1:N'[j]? = some x) (h2:X.N[i]? = some x) (h3:X.env.kindOf x=some .cell\/X.env.kindOf x=some .free)
   (h4:(relabel scope X.env).names.lookup x=some .cell\/(relabel scope X.env).names.lookup x=some .free) (h5:cl.lookup x=X.env.cells.lookup x) (t:n8 X N' scope cl (j+1) r):n8 X N' scope cl j (i::r)
theorem n8.len {j:Nat}{a:LN}(h:n8 X e d f j a):e.length=j+a.length:=by
 induction h with
 |nil h=>rw[h];rfl
 |cons _ _ _ _ _ _ i=>rw[i,vE];lia
theorem n8.get:∀ {j:Nat}{a:LN}{k i:Nat},n8 X f d g j a->a[k]? = some i->∃x,f[j+k]? = some x/\X.N[i]? = some x/\(X.env.kindOf x=some .cell\/X.env.kindOf x=some .free) /\
  ((relabel d X.env).names.lookup x=some .cell\/(relabel d X.env).names.lookup x=some .free)/\g.lookup x=X.env.cells.lookup x
 |_,_,_,_,.nil _,e=>by simp at e
 |j,_,0,_,.cons b c o w z _,e=>by simp at e;subst e;exact⟨_,b,c,o,w,z⟩
 |j,_,k+1,i,.cons _ _ _ _ _ t,e=>by
  obtain⟨x,q,r⟩:=t.get (by simpa using e);exact⟨x,N9,r⟩
structure CompSc (X:Cx)(scope:Scope)(cl:List (Str×Addr)):Prop where
 clos:closureFor scope X.env=pure cl
 nocell:∀y∈scope.names,y.2≠.cell
 kind:scope.kind=.function
 names:∀y∈scope.names,y.2=.local->scope.names.lookup y.1=some .local
 sub:∀x c,cl.lookup x=some c->X.env.cells.lookup x=some c
 has:∀x,((relabel scope X.env).names.lookup x=some .cell\/(relabel scope X.env).names.lookup x=some .free)->∃c,cl.lookup x=some c
noncomputable def eC:List (Str×NameKind)->List (Str×Addr)->List (Str×Addr)->List (Str×Addr)
 |[],_,b=>b
 | (n,k)::r,a,b=>eC r a (if k == .free then (match a.lookup n with|some c=>(n,c)::b|none=>b)else b)
def vz:∀(a:List (Str×NameKind))(b:List (Str×Addr)),(∀y∈a,y.2=.free->(e.cells.lookup y.1).isSome=true) ->
    (do let mut b:=b
        for (d,f)in a do
          if f == .free then b:=(d,<-cellOf e d)::b
        return b:Sem (List (Str×Addr)))=pure (eC a e.cells b):=by
  intro a;induction a with
  |nil=>intro b z;rfl
  |cons y r M=>
    intro b h;grind[eC,cellOf]
theorem nI:∀a b,(∀y d,b.lookup y=some d->f.lookup y=some d)->(eC a f b).lookup x=some c->f.lookup x=some c
 |[],b,h,e=>h x c e
 | (n,k)::r,b,h,e=>by
  refine nI r _ (λy d q=>?_) e;split at q
  .split at q
   .rename_i O M;rw[lookup_cons]at q;split at q
    .rename_i o;cases q
     rw[eq_of_beq o];exact M
    .exact h y d q
   .exact h y d q
  .exact h y d q
theorem v0:∀a b,(b.lookup x).isSome=true->((eC a d b).lookup x).isSome=true
 |[],b,h=>h
 | (n,k)::r,b,h=>by
  refine v0 r _ ?_;split
  .split
   .rw[lookup_cons];split
    .rfl
    .exact h
   .exact h
  .exact h
theorem nJ:∀a b,(x,NameKind.free)∈a->(d.lookup x).isSome=true->((eC a d b).lookup x).isSome=true
 | (n,k)::r,b,c,o=>by
  rcases vP c with e|e
  .refine v0 r _ ?_;grind
  .exact nJ r _ e o
theorem gZ {a:Type}{k:a}:∀ {l:List (Str×a)},l.lookup x=some k->(x,k)∈l
 | (n,j)::r,h=>by
  rw[lookup_cons]at h;split at h
  .simp_all
  .exact mZ _ (gZ h)
def RU {X:Cx}{a:Scope}(o:∀y∈a.names,y.2≠.cell)(r:a.kind=.function)(w:∀y∈a.names,y.2=.local->a.names.lookup y.1=some .local)(M:(a.names.all λy=>!(y.2 == NameKind.free) || (X.env.cells.lookup y.1).isSome)=true):
  CompSc X a (eC a.names X.env.cells []):=by
 have b:∀y∈a.names,y.2=.free->(X.env.cells.lookup y.1).isSome=true:=λy z e=>by
  grind
 have frees:∀x,((relabel a X.env).names.lookup x=some .cell\/(relabel a X.env).names.lookup x=some .free)->(x,NameKind.free)∈a.names:=λx h=>by
  have:∃k,(x,k)∈(relabel a X.env).names/\(k=.cell\/k=.free):=by
   grind[gZ]
  grind[relabel]
 exact⟨vz _ [] b,o,r,w,λx c e=>nI _ [] (λy d q=>by cases q) e,λx h=>by
  have:=nJ _ [] (frees x h) (b _ (frees x h) rr);exact uU this⟩
def qX {b:Scope}(h:(x,NameKind.free)∈b.names)(k:(a.lookup x).isSome=true):(eC b.names a []).lookup x=a.lookup x:=by
 obtain⟨c,e⟩:=uU (nJ _ [] h k);grind[nI]
noncomputable def zf (b:Nat)(a:LN)(c:St):St:=List.replicate b none++a.map λi=>(c[i]?).join
noncomputable def cR (b:Nat)(a:LN)(c:Env):Env:=List.replicate b none++a.map λi=>match c[i]? with|some (some (d,_))=>some (d,false)|_=>none
def xK {o:Type}{a:LN}{f:Nat->Option o}{v:o}(h:(List.replicate b none++a.map f)[j]? = some (some v)):∃k i,j=b+k/\a[k]? = some i/\f i=some v:=by
 by_cases c:j<b
 .rw[getElem?_append_left (by simpa using c),List.getElem?_replicate,if_pos c]at h;cases h
 .rw[getElem?_append_right (by simpa using Nat.not_lt.mp c),length_replicate,vA]at h;exact eS h λi q r=>⟨j - b,i,N9,q,r⟩
def Nz {b:Type}{c:Nat}{a:LN}{f:Nat->Option b}{k i:Nat}{v:b}(o:a[k]? = some i)(q:f i=some v):(List.replicate c none++a.map f)[c+k]? = some (some v):=by
 rw[getElem?_append_right H9,length_replicate,vA,Nat.add_sub_cancel_left,o];simp[q]
set_option tactic.hygienic true in
def fQ.caps {K:Frag}{B:Hp}{c:St}{o:Env}{r:Nat}{a:LN}(h:fQ K B c o):fQ K B (zf r a c) (cR r a o):=⟨h.tb,λj d b q=>by
 obtain⟨k,i,rfl,z,w⟩:=xK q;split at w
 .rename_i F P e;cases w
  obtain⟨v,D,M⟩:=h.at' i _ _ e;exact⟨v,Nz z (by rw[D];rfl),M⟩
 simp_all⟩
noncomputable def gN (a:FG)(c:FT)(k:FE)(o:Env):LD->Option LD
 |[]=>some []
 |d::r=>(a d o).bind λM=>(c M).bind λb=>if b=true then (k M).bind λx=>(gN a c k o r).map (x.1 :: ·)else gN a c k o r
@[simp] def UB (a)c(b)k:gN a c b k []=some []:=by rw[gN]
@[simp] theorem BN a c(k)o(d)r:gN a c k o (d::r)=(a d o).bind λM=>(c M).bind λb=>if b=true then (k M).bind λx=>(gN a c k o r).map (x.1 :: ·)else gN a c k o r:=by rw[gN]
@[simp] def gB (o:FA)(q:Nat)(b:LN)(r:FG)(c:FT)(w:FE):FE:=λk=>(o k).bind λa=>if a.length<=sizeLine then (gN r c w (cR q b k) a).map λz=>(.lst z,true)else none
def N6 (K:Frag)(n:Nat)(c:FG)(g:TG):Prop:=∀(B H:Hp)(b:St)(a O:Env)(v:V)(d:D)(Q:St->Hp->Prop),(∀i,i<n->a[i]? = some none)->fQ K B b a->aS B H->Is K B v d->c d a=some O ->
 a.length=b.length->(∀M,fQ K B M O->(∀U,fQ K U b a->fQ K U M a)->a.length=M.length->Q M H)->g v b H Q
def sd {K:Frag}(R:i<n):N6 K n (eA i) (jm i):=by
 intro B H r S U v d Q V c s h e D k;cases e
 have O:i<r.length:=by
  grind
 refine k _ ⟨c.tb,λj e b q=>?_⟩ ?_ (by simpa using D)
 .rcases bZ q with⟨rfl,p⟩|⟨F,p⟩
  .simp_all
  .obtain⟨w,P,o⟩:=c.at' j e b p;simp_all
 .intro a M;refine⟨M.tb,λj e b q=>?_⟩;obtain⟨w,P,o⟩:=M.at' j e b q;have F:i≠j:=λz=>by grind
  exact⟨w,by simp_all,o⟩
def JC (X:Cx)(M:QD)(c:FT):Prop:=∀(b:AO)(s:Shared)(a:St)(H:Hp)(Q:Bool->Hp->Prop),Inv X b a H s->Dk X.K c a H Q ->
 wq X (forIn M true λc r=>if r=true then do let ok <-isTrue c X.env (eval c X.env);pure (ForInStep.yield ok)else pure (ForInStep.yield r)) (TP X b a Q) X.xe s
@[simp] def se:FT:=λz=>some true
def RV:JC X [] se:=by
 intro b s k H Q I h;refine cX λz g'=>?_;obtain⟨B,o,c,M,a,e,q⟩:=h;apply g';cases e
 exact wpAny_tests_nil ⟨H,I,q H (.refl H)⟩
def RW (h:JT X e f):JC X [e] f:=λb s a H Q I q=>wpAny_tests_one (h _ s a H Q I q)
inductive CI (Y:Cx)(tn:Nat->Heap->Prop)(fp:List Addr)(N1 H2:Hp)(κ:Env)(a:Addr)(l:List D->Option (List D))(items ds:List D)(s:Shared):Nat->Prop
 |mk (i:Nat) (N:Hp) (vs:List V) (es r:List D) (σ:St) (H:Hp) (I:Inv Y [] σ H s) (ti:tn i s.heap) (hn:∀b∈fp,H b=none) (hi:i<=items.length) (rp:fQ Y.K N1 σ κ) (hl:κ.length=σ.length)
   (x:Ext N1 N H2 H) (n0:N a=none) (h0:H a=some (.lst vs)) (vl:vs.length<=i) (iv:IsL Y.K N vs es) (er:l (items.drop i)=some r) (ed:es++r=ds):CI Y tn fp N1 H2 κ a l items ds s (items.length - i)
def Ext.off (x:Ext B N H d)(h:B a=none)(b:H a=some o):N a=none:=by
 cases z:N a with
 |none=>rfl
 |some u=>
  rcases x.new _ _ z with z|z
  .rw[h]at z;cases z
  simp_all
def Gr {Y:Cx}(U:Y.calm=true)(hE:∀x s,¬Y.xe x s)(hg:PG Y tg g)(YO:N6 Y.K nT u9 g)(hc:JC Y xu fc)(he:JE Y yL fe)(T:Turn Y.prog Y.w Y.K tg J fp it tn)(YQ:∀i,i<nT->κ[i]? = some none)
  (J1:mD Y.K J N1 items) (hsz:items.length<=sizeLine) (hD:H2 a=none) (t:∀H',(∀b∈fp,H' b=none)->∀b∈fp,mm Y [] H' b)
  (hR:∀G O H' N vs,Inv Y [] O H' G->Ext N1 N H2 H'->N a=none->H' a=some (.lst vs)->IsL Y.K N vs ds->R (.ok .next) G) (h:CI Y tn fp N1 H2 κ a (gN u9 fc fe κ) items ds s items.length):
  codeAny (model Y.prog Y.w) Y.A (.compLoop (.ListComp yL [⟨tg,f9,xu,0⟩] scope pos) 0 (.ref it) (.ref a) Y.env) R s:=by
 refine xJ hE (λn s=>CI Y tn fp N1 H2 κ a (gN u9 fc fe κ) items ds s n) (λn s' h=>?_) _ h;obtain⟨i,N,vs,es,r,O,H',I',ti,hn,hi,rp,jl,x,H,ZN,B5,YR,er,ZO⟩:=h;have sH:aS N1 H':=x.bn.trans x.nh;by_cases qM:i<items.length
 .obtain⟨go,yl⟩:=(J1 i H' sH).1 items[i] (by simp[qM]);refine bY (T.item Y rr rr rr U i [] s' O H' Y.xe I' (t _ hn) ti go) λq G ⟨u,eu,hq⟩=>?_;subst eu;refine bY hq λ_ s5 ⟨xv,I,I5,rx,y5,t5,fr5⟩=>?_;obtain⟨j,x5,i5⟩:=yl xv I y5;obtain⟨x6,c5⟩:=(by
  refine⟨⟨x5.hh,fD,λa o e=>?_,λa o e=>?_⟩,λa o e=>?_⟩
  .cases z:N a with
   |some b=>rw[fD _ _ z]at e;cases e;exact x5.hh _ _ (x.nh _ _ z)
   |none=>rw[dJ z]at e;exact x5.nh _ _ e
  .cases z:N a with
   |some b=>rw[fD _ _ z]at e;simp_all
   |none=>
    rw[dJ z]at e;exact(x5.new a o e).elim (λM=>by rw[x.bn _ _ M]at z;cases z) .inr
  .exact(x5.new a o e).elim (λz=>fD _ _ (x.bn _ _ z)) λz=>by rw[dJ (x.nh.free z)];exact e:Ext N (join N j) H' I/\aS j (join N j));have L:(join N j) a=none:=x6.off H ZN;have ZP:aS (join N j) I:=x6.nh;rw[List.drop_eq_getElem_cons qM]at er;unfold gN at er;refine eX er λk e1 er=>?_;refine eX er λb e2 er=>?_;have dF:∀(P:Shared)(f:St)(l Q:Hp)(S:LV)(ZQ r9:LD),Inv Y (rO fp s5.heap) f l P->fQ Y.K N1 f κ->κ.length=f.length->Ext N1 Q H2 l->Q a=none->l a=some (.lst S) ->
    S.length<=i+1->IsL Y.K Q S ZQ->gN u9 fc fe κ (items.drop (i+1))=some r9->ZQ++r9=ds->∃m,m<items.length - i/\CI Y tn fp N1 H2 κ a (gN u9 fc fe κ) items ds P m:=λP f l Q S ZQ r9 z rp9 l9 x9 n9 h9 v9 i9 er9 ed9=>
   ⟨_,O_,i+1,Q,S,ZQ,r9,f,l,z.pins_of λp hp=>by simp at hp,T.keep _ _ _ t5 λb hb o e=>(z.pin (b,o) (mY _ (j9 hb e))).1,λb hb=>by
    obtain⟨o,e,d⟩:=T.obj _ _ t5 b hb;exact(z.pin (b,o) (mY _ (j9 hb e))).2.1,qM,rp9,l9,x9,n9,h9,v9,i9,er9,ed9⟩
  refine bY (hg (rO fp s5.heap) s5 O I xv u (λM V=>V=I/\fQ Y.K (join N j) M k/\fQ Y.K N1 M κ/\κ.length=M.length) (I5.pinned (t _ fr5) (T.obj _ _ t5)) rx
   (YO (join N j) I O κ k xv items[i] _ YQ (rp.mono (x.bn.trans fD)) ZP (i5.mono c5) e1 jl λσ1 r1 r2 l1=>⟨rr,r1,r2 N1 rp,l1⟩)) λ_ s6 ⟨M,V,I6,eH,W,X,l6⟩=>?_
  subst eH;have B:V a=some (.lst vs):=x5.hh _ _ ZN;refine bY (hc _ s6 M V (λc C=>c=b/\aS V C) I6 ⟨join N j,k,b,ZP,W,e2,λC D=>⟨rr,D⟩⟩) λok s7 ⟨C,I7,eb,D⟩=>?_;subst eb;have x7:Ext N1 (join N j) H2 C:=(x.trans x6).trans (.grow ZP D);cases ok with
  |false=>
   exact dF s7 M C (join N j) vs es r I7 X l6 x7 L (D _ _ B) (le_succ_of_le B5) (YR.mono fD) er ZO
  |true=>
   rw[if_pos rr]at er |-;refine eX er λy e3 er=>?_;refine eS er λr' e4 er=>?_;subst er;refine bY (he _ s7 M C (λv Z=>∃E,Ext (join N j) E C Z/\Is Y.K E v y.1) I7 ⟨join N j,k,y.1,y.2,ZP.trans D,W,e3,λv Z E F i8 _=>⟨E,F,i8⟩⟩) λw8 s8 ⟨v8,Z,I8,r8,E,F,i8⟩=>?_;refine bY (vw _ s8 M Z (.ref a) [v8] (.ref a) [w8] (λ_ l=>l=upd Z a (.lst (vs++[v8]))) I8 rr (.cons r8 .nil) ⟨_,vs,v8,rr,rr,F.hh _ _ (D _ _ B),M_,rr⟩) λ_ P ⟨_,l,z,_,e9⟩=>?_;subst e9;have hN8:=F.off L (D _ _ B);exact dF P M _ E (vs++[v8]) (es++[y.1]) r' z X l6 ((x7.trans F).upd hD hN8) hN8 av (by simp_all) ((YR.mono (fD.trans F.bn)).append (.cons i8 .nil)) e4 (by rw[append_assoc];exact ZO)
 .obtain rfl:i=items.length:=N9
  rw[List.drop_eq_nil_of_le (vT _)]at er;cases er
  rw[uQ]at ZO;subst ZO;refine bY (T.done Y rr rr rr U items.length [] s' O H' Y.xe I' (t _ hn) ti ((J1 _ H' sH).2 (vT _))) λq G ⟨hq,z⟩=>?_;subst hq;exact hR G O H' N vs z x H ZN YR
def sf {X:Cx}(YU:X.calm=true){tg f9 Z:Expr}{xu:QD}{scope:Scope}{I:Pos}{cl:List (Str×Addr)}{N':LS}{nT:Nat}{cap:LN}{u9:FG}{g:TG}{fc:FT}{fe:FE}
  (S:CompSc X scope cl) (cp:n8 X N' scope cl nT cap)
  (hg:∀C s H fp,PG (jc X N' scope cl C s H fp) tg g) (YO:N6 X.K nT u9 g) (hc:∀C s H fp,JC (jc X N' scope cl C s H fp) xu fc) (he:∀C s H fp,JE (jc X N' scope cl C s H fp) Z fe)
  {ag:AO}{σ:St}{H2:Hp}{s2:Shared}{it:Addr}{fp:List Addr}{tn:Nat->Heap->Prop}{J:It}{N1:Hp}{ρ:Env}{items ds:LD}{E:QV}
  (f:Inv X ag σ H2 s2) (T:Turn X.prog X.w X.K tg J fp it tn) (Qd:tn 0 s2.heap) (f2:∀b∈fp,mm X ag H2 b)
  (rep:fQ X.K N1 σ ρ) (sN:aS N1 H2) (J1:mD X.K J N1 items) (hsz:items.length<=sizeLine) (ec:gN u9 fc fe (cR nT cap ρ) items=some ds) {RR:Value->Addr->Result->Shared->Prop}
  (hRR:∀(Dd C:Addr)(s':Shared)(H' N:Hp)(vs:LV)(m:SV),H2 Dd=none->Inv X ag σ H' s'->s'.heap.Ns C m->mm X ag H' C->Ext N1 N H2 H'->N Dd=some (.lst vs)->IsL X.K N vs ds->RR (.ref Dd) C (.ok .next) s'):
  wq X (newList []) (λMx d=>wq X (newFunctionEnv scope X.env.globals cl [] X.env.qual none .none (some X.env)) (λYV L=>
   codeAny (model X.prog X.w) X.A (.compStart (.ListComp Z [⟨tg,f9,xu,0⟩] scope I) 0 (.ref it) Mx { YV with scope:=relabel scope X.env }) (RR Mx YV.locals) L) E d) E s2:=by
 refine wpAny_newObj_type (wpAny_newFunctionEnv S.nocell (by intro y hy;simp at hy) (λn O U=>?_) S.kind);dsimp only at O U |-;have F:H2 s2.z=none:=f.fresh;have t:=f.lnew (t':=s2.toks) (ys:=[]) (its:=[]) .nil (uN _);generalize P:s2.heap.push _=B at O U t |-;have hC:B.objs.size=s2.z+1:=by rw[<-P,Heap.size_push]
 have W:∀b o,s2.heap.get? b=some o->B.get? b=some o:=λb o e=>P ▸ vZ _ e;have M:∀b o,B.get? b=some o->n.get? b=some o:=λb o e=>U.extBut b o (vS (vX e)) (vZ _ e);have UM:∀b o,B.get? b=some o->b≠B.objs.size:=λb o e=>vS (vX e);have Q:∀b∈fp,∃o,s2.heap.get? b=some o:=λb hb=>let ⟨o,e,_⟩:=T.obj 0 s2.heap Qd b hb;⟨o,e⟩;have fpD:∀b∈fp,b≠s2.z:=λb hb=>let ⟨o,e⟩:=Q b hb;vS (vX e);have R:∀b∈fp,b≠B.objs.size:=λb hb=>let ⟨o,e⟩:=Q b hb;UM b o (W b o e);have hHC:=t.hok.fresh (vT _);let Y:Cx:=jc X N' scope cl B.objs.size { s2 with heap:=B } (upd H2 s2.z (.lst [])) fp;have ok:Y.Ok:=by
  refine⟨f.ok.mod,?_,f.ok.glob,f.ok.blt,vT _,λx y c e1 e2=>f.ok.inj x y c (S.sub x c e1) (S.sub y c e2),λx h=>S.has x h,λx c h=>absurd h uX,f.ok.hd,f.ok.frames,.inl rr,λb hb=>⟨R b hb,λx c e=>(f2 b hb).2.2.2.2.1 x c (S.sub x c e)⟩,λb o e=>?_,?_,λb o e hb=>?_,λb hb hz=>?_,t.stack,λb hb=>t.stkFree b hb⟩
  .show(relabel scope X.env).kind=.function;exact S.kind
  .exact t.bs b o e
  .exact vR t.ok.bsz t.sz
  .have h1:=(f2 b hb).2.2.2.1;rcases h1 with z|z
   .exact f.ok.noex b o e z
   .exact absurd (vQ (vX e) (vR f.ok.bsz z)) (Nat.lt_irrefl _)
  .rcases vP (f.stkSub b hz)with z|z
   .exact(f2 b hb).2.1 z
   .exact(f2 b hb).2.2.1 z
 have I4:Inv Y [] (zf nT cap σ) (upd H2 s2.z (.lst [])) { s2 with heap:=n,toks:=s2.toks+([]:List (Str×Value)).length }:=by
  refine⟨ok,rr,f.bare,Un.kept M,⟨_,O,λj x v e1 e2 e3=>?_⟩,λx c e=>?_,hHC,λx c e=>t.freeC x c (S.sub x c e),λp hp=>absurd (show p∈[]from hp) not_mem_nil,t.hok.kept M,?_⟩
  .refine cX λ_ g'=>?_;obtain⟨k,i,rfl,h1,h2⟩:=xK e2;obtain⟨y,g1,g2,g3',g4,g5⟩:=cp.get h1;apply g';have V:N'[nT+k]? = some x:=e1;rw[g1]at V;cases V;have YN:σ[i]? = some (some v):=by
    cases q:σ[i]? with
    |none=>rw[q]at h2;cases h2
    |some z=>rw[q]at h2;have:z=some v:=h2;rw[this]
   obtain⟨m,_,hl⟩:=t.loc;obtain⟨u,r,l⟩:=hl i _ v g2 YN (g3'.elim (λz=>.inr (.inl z)) λz=>.inr (.inr z));refine⟨u,r,?_⟩;rcases l with⟨l,_⟩|⟨_,c,lc,ic⟩
   .simp_all
   .refine .inr ⟨g4,c,by show cl.lookup _=some c;simp_all,?_⟩;obtain⟨o,ho,hd⟩:=ic;exact⟨o,M _ _ ho,hd⟩
  .obtain⟨v,o,ho,hd⟩:=t.cell x c (S.sub x c e);exact⟨v,o,M _ _ ho,hd⟩
  .show(zf nT cap σ).length=N'.length;unfold zf;rw[cp.len];simp
 have D:∀d:Shared,d={ s2 with heap:=n,toks:=s2.toks+([]:List (Str×Value)).length }->codeAny (model Y.prog Y.w) Y.A (.compLoop (.ListComp Z [⟨tg,f9,xu,0⟩] scope I) 0 (.ref it) (.ref s2.z) Y.env) (RR (.ref s2.z) B.objs.size) d:=by
  rintro d rfl;refine Gr (Y:=Y) YU (λ_ _ z=>z) (hg _ _ _ _) YO (hc _ _ _ _) (he _ _ _ _) T (λi hi=>?_) J1 hsz F (λH' hn b hb=>⟨hn b hb,R b hb,ok.exfs b hb,.inl hb,λx c e=>(f2 b hb).2.2.2.2.1 x c (S.sub x c e),λp hp=>absurd (show p∈[]from hp) not_mem_nil⟩) (λs4 σ' H' N vs G x hN0 ZN YR=>?_)
   ⟨0,N1,[],[],ds,zf nT cap σ,_,I4,T.keep _ _ _ Qd λb hb o e=>M _ _ (W _ _ e),λb hb=>?_,uN _,rep.caps,?_,(Ext.refl sN).upd F (sN.free F),sN.free F,av,uN _,.nil,by simpa using ec,rr⟩
  .simp_all[cR,getElem?_append_left]
  .obtain⟨m,hm,_⟩:=G.loc;have k:aS N (upd N s2.z (.lst vs)):=λa o e=>by grind[a8]
   refine hRR s2.z B.objs.size s4 H' (upd N s2.z (.lst vs)) vs m F (by
    obtain⟨h',k,o,q,r⟩:=s4;have e:=G.os;subst e;exact f.call ((Un.laid W (vT _) F).trans G.base) G.hok G.bare (λb hb=>⟨(f2 b hb).2.2.2.1,(f2 b hb).2.1,(f2 b hb).2.2.2.2.1,(f2 b hb).2.2.2.2.2⟩)) hm (f.fpOk (by rw[hC];exact le_succ _) G.free) ⟨x.hh,x.bn.trans k,λa o e=>?_,λa o e=>?_⟩ av (YR.mono k)
   .by_cases z:a=s2.z
    .simp_all[av]
    .rw[a8 z]at e;exact x.nh _ _ e
   .by_cases z:a=s2.z
    .subst z;exact .inr F
    .rw[a8 z]at e;exact x.new _ _ e
  .rw[a8 (fpD b hb)];exact(f2 b hb).1
  .unfold cR zf;simp
 exact codeAny_compStart_list (D _ rr) (T.self _ 0 _ _ _ (T.keep _ _ _ Qd λb hb o e=>M _ _ (W _ _ e)) (D _ rr))
def N7 (M:X.calm=true)
  (S:CompSc X E G) (cp:n8 X L E G nT Y) (hi:JI X tg f9 fi)
  (i:∀C s H F,PG (jc X L E G C s H F) tg g) (U:N6 X.K nT u9 g) (hc:∀C s H F,JC (jc X L E G C s H F) xu fc) (he:∀C s H F,JE (jc X L E G C s H F) yL fe)
  (hs:∀x,foldedSetIterable f9 X.env x=pure x:=by intro _;rfl):
  JE X (.ListComp yL [⟨tg,f9,xu,0⟩] E pos) (gB fi nT Y u9 fc fe):=by
 intro ag s σ H Q I h;refine cX λ_ g'=>?_;obtain⟨B,ρ,d,b,j,P,e,q⟩:=h;apply g';refine eX e λD ei e=>?_;have R:=Decidable.byContradiction λz=>by rw[if_neg z]at e;cases e
 rw[if_pos R]at e;refine eS e λds k e=>?_;cases e
 refine wpAny_comprehension_free rr hs S.clos S.kind S.names (bY (hi _ s σ H (λJ W=>∃V,Ext B V H W/\mD X.K J V _) I ⟨B,ρ,D,j,P,ei,λJ W V O a=>⟨V,O,a⟩⟩) λv s1 h1=>bY h1 λl s2 h2=>?_);refine cX λ_ g'=>?_;obtain⟨it,F,tn,J,W,e,n,T,p,f2,V,O,a⟩:=h2;apply g';subst e;refine sf M S cp i U hc he n T p f2 (P.mono O.bn) O.nh a R k ?_;intro Dd C s' Z N vs m r t hm fC x f hl;refine⟨m,hm,λh' c=>⟨.ref Dd,Z,?_,rr,q _ Z N (O.trans x) (.lst (fW.of f) hl) λ_=>⟨Dd,vs,ds,rr,rr,O.hh.free r,f,hl⟩⟩⟩;obtain⟨u,w,c2,c3,y,A⟩:=fC;exact t.turned (λb o hb e=>(c.2 b hb).trans e) u w c3 y A
def NA (M:X.calm=true)
  (n:X.N.Nodup) (c:X.N[i]? = some y) (hy:X.env.kindOf y=some .local)
  (p:swapsWith (.ListComp yL [⟨tg,f9,xu,0⟩] scope pos) (some (.Name y py)) spos.line X.env=pure true)
  (S:CompSc X scope cl) (cp:n8 X N' scope cl nT cap) (hi:JI X tg f9 fi)
  (t:∀C s H fp,PG (jc X N' scope cl C s H fp) tg g) (u:N6 X.K nT u9 g) (hc:∀C s H fp,JC (jc X N' scope cl C s H fp) xu fc) (he:∀C s H fp,JE (jc X N' scope cl C s H fp) yL fe)
  (hs:∀x,foldedSetIterable f9 X.env x=pure x:=by intro _;rfl):
  JS X (.Assign [.Name y py] (.ListComp yL [⟨tg,f9,xu,0⟩] scope pos) spos) (dq i (gB fi nT cap u9 fc fe)):=by
 intro ag s σ H E I h;have h2:=Dm h;refine cX λ_ g'=>?_;obtain⟨B,ρ,d,b,A,rep,e,q⟩:=h2;apply g';refine eX e λitems ei e=>?_;have hsz:=Decidable.byContradiction λz=>by rw[if_neg z]at e;cases e
 rw[if_pos hsz]at e;refine eS e λds D e=>?_;cases e
 rw[exec_Assign_Name_used _ _ _ _ p];refine wX (wpAny_standAt (wX ?_));refine wX (wpAny_mono (wpAny_comprehension_free rr hs S.clos S.kind S.names
  (bY (hi ag s σ H (λJ H2=>∃N1,Ext B N1 H H2/\mD X.K J N1 items) I ⟨B,ρ,items,A,rep,ei,λJ H2 N1 O f=>⟨N1,O,f⟩⟩) λv s1 h1=>bY h1 λF s2 h2=>?_)) (λ_ s' hq=>wY (wY hq)) λ_ _ e=>e)
 refine cX λ_ g'=>?_;obtain⟨it,fp,tn,J,H2,e,G,T,L,f2,N1,O,f⟩:=h2;apply g';subst e;refine sf M S cp t u hc he G T L f2 (rep.mono O.bn) O.nh f hsz D ?_;intro Dd C s' H' N vs m P Q hm fC x U hl;refine cX λ_ g'=>?_;obtain⟨R,k,c2,c3,l,V⟩:=fC;apply g';refine wpAny_assign_Name (vk Q n c (.inl hy) (r:=show aI (.ref Dd) (.ref Dd)from rr) (λW Y ⟨a,Z,ha⟩=>?_) (.inr hy));have nC:C≠a:=by
  rcases ha with z|z
  .rw[z];exact k
  .exact λw=>l y a z w.symm
 refine⟨m,hm.sameBut Z nC,λh' j=>⟨_,H',?_,q _ H' N (O.trans x) (.lst (fW.of U) hl) λ_=>⟨Dd,vs,ds,rr,rr,O.hh.free P,U,hl⟩⟩⟩;exact Y.turned (t':=W.toks) (λb o hb e=>(j.2 b hb).trans e) R k c3 l V
section
variable {X:Cx}{a b c e:Expr}{pos:Pos}
def PE.to (h:PE X e t)(k:∀o H Q,d o H Q->t o H Q):PE X e d:=λr s o H Q I q=>h _ s o H Q I (k o H Q q)
def PT.to (h:PT X e t)(k:∀o H Q,d o H Q->t o H Q):PT X e d:=λr s o H Q I q=>h _ s o H Q I (k o H Q q)
def PW.to (h:PW X e t)(k:∀o H Q,d o H Q->t o H Q):PW X e d:=λr w s o H Q I q=>h r _ s o H Q I (k o H Q q)
def PA.to (h:PA X d t)(k:∀o H Q,f o H Q->t o H Q):PA X d f:=λpos r s o H Q I q=>h _ _ s o H Q I (k o H Q q)
def PS.to(h:PS X r t)(k:∀E o H,w E o H->t E o H):PS X r w:=λz s o H E I q=>h _ s o H E I (k E o H q)
def vn.to(h:vn X r t)(k:∀E o H,w E o H->t E o H):vn X r w:=λz s o H E I q=>h _ s o H E I (k E o H q)
def PI.to (h:PI X d f t)(k:∀o H Q,g o H Q->t o H Q):PI X d f g:=λr s o H Q I q=>h _ s o H Q I (k o H Q q)
def Gs {K:Frag}(i:∀B,Is K B v d)(h:tD K (fC d) k H Q):tC v k H Q:=by
 obtain⟨B,o,w,b,s,r,e,q⟩:=h;cases e
 exact q.one s (i B)
def RX i(O:X.N[i]? = some x)(k:M6 X.env.scope x)(o:bB x)
  (M:mo x):JE X (.Name x pos) (ak i):=PE.to (k8 O k o M) λz z z=>RQ
def RY:JE X (.Constant (.int i) j pos) (fC (.int i)):=PE.to (λz z z H z I h=>wpAny_Constant_int ⟨.int i,H,I.tok _,⟨_,rr⟩,h⟩) λz z z=>Gs (λz=>.int i)
def VO:JE X (.Constant (.bool i) j pos) (fC (.bl i)):=PE.to (λz z z H z I h=>Constant_bool ⟨.bl i,H,I,rr,h⟩) λz z z=>Gs (λz=>.bl i)
def IY:JE X (.Constant .none j pos) (fC .non):=PE.to (λz z z H z I h=>Constant_none ⟨.non,H,I,rr,h⟩) λz z z=>Gs (λz=>.non)
def RZ:JE X (.Constant (.str x) j pos) (fC (.str x)):=PE.to (λz z z H z I h=>Calls.Constant_str ⟨.str x,H,I.tok _,⟨_,rr⟩,h⟩) λz z z=>Gs (λz=>.str x)
def VP (M:dj X (binaryOp d) (rD X.K f))(k:JE X a g)(o:JE X b O):JE X (.BinOp a d b pos) (f2 f g O):=PE.to (λK s z H Q I h=>wpAny_BinOp (R3 k o I h λv u D x y F e U c=>M _ D z F x y v u Q e U c)) λw w w=>Nr
def VQ (M:Vt X (unaryOp d) (rDU X.K f))(k:JE X a g):JE X (.UnaryOp d a pos) (f1 f g):=PE.to (Vv M k) λz z z=>λh=>by
 obtain⟨B,a,d,b,s,r,e,q⟩:=h;exact eX e λx c e=>⟨B,a,x.1,x.2,s,r,c,λv M N O k z=>⟨N,x.1,d,b,O.nh,k,e,q.into O⟩⟩
def Sa (M:dj X (compareOp d) (rD X.K f))(k:JE X a g)(o:JE X b O)(q:behindInMarks d b=false):JE X (.Compare a [d] [b] pos) (f2 f g O):=PE.to (λK s z H Q I h=>wpAny_Compare1 (R3 k o I h λv u D x y F e U c=>M _ D z F x y v u Q e U c) q) λw w w=>Nr
set_option tactic.hygienic true in
def p7 {K:Frag}(h:Dk K (aY f) w H Q):tD K f w H λx o=>∃k,x=.bl k/\Q k o:=by
 obtain⟨B,z,c,s,r,e,q⟩:=h;unfold aY at e;split at e
 .rename_i O D M;cases e
  refine⟨B,z,.bl c,D,s,r,M,λv o N x i _=>?_⟩;cases i
  exact⟨c,rr,q o x.hh⟩
 simp_all
def Sb (M:dj X (compareOp d) (rD X.K f))(k:JE X a g)(o:JE X b O)(q:behindInMarks d b=false):JT X (.Compare a [d] [b] pos) (aY (f2 f g O)):=
 PT.to (De M k o q) λz z z h=>Nr (p7 h)
def Sc (h:JE X e f)(k:∀M,isTrue e X.env M=(do let v <-M;standAt e.pos;holding [v] (truthy v))):JT X e (aY f):=PT.to (Ro h k) λz z z=>p7
@[simp] noncomputable def kF (f g:D->D->OB)(o M O:FE):FE:=λk=>(o k).bind λx=>(M k).bind λy=>match f x.1 y.1 with
 |some (.bl true,_)=>(O k).bind λz=>g y.1 z.1
 |some (.bl false,_)=>some (.bl false,false)
 |_=>none
set_option tactic.hygienic true in
def zg {K:Frag}{f g:D->D->OB}{V l m:FE}{W:St}{H:Hp}{Q:VK}(h:tD K (kF f g V l m) W H Q):BB (rD K f) (rD K g) (tD K V) (tD K l) (tD K m) W H Q:=by
 refine cX λ_ g'=>?_;obtain⟨B,P,d,b,s,r,e,q⟩:=h;apply g';refine eX e λx J e=>?_;refine eX e λy o e=>?_;refine⟨B,P,x.1,x.2,s,r,J,λv C L U Z _=>⟨L,P,y.1,y.2,U.nh,r.mono U.bn,o,λE N I M R _=>?_⟩⟩;split at e
 .rename_i S i;refine eX e λz p e=>?_;refine⟨I,x.1,y.1,.bl _,S,M.nh,Z.mono M.bn,R,i,λt u n O j _=>?_⟩;cases j
  refine⟨true,rr,?_⟩;refine⟨n,P,z.1,z.2,O.nh,r.mono (U.bn.trans (M.bn.trans O.bn)),p,λF G w k A _=>⟨w,y.1,z.1,d,b,k.nh,R.mono (O.bn.trans k.bn),A,e,?_⟩⟩;exact q.into ((U.trans M).trans (O.trans k))
 .rename_i S i;cases e
  refine⟨I,x.1,y.1,.bl _,S,M.nh,Z.mono M.bn,R,i,λt u n O j _=>?_⟩;cases j
  refine⟨false,rr,?_⟩;exact(q.into ((U.trans M).trans O)).one O.nh (.bl _)
 simp_all
def IZ (O:dj X (compareOp d) (rD X.K f))(M:dj X (compareOp U) (rD X.K g))(k:JE X a i)(o:JE X b j)(q:JE X c l)
  (r:lastMarks [d,U] [b,c]=false):JE X (.Compare a [d,U] [b,c] pos) (kF f g i j l):=PE.to (Ir O M k o q r) λz z z=>zg
def Ja (O:dj X (compareOp d) (rD X.K f))(M:dj X (compareOp U) (rD X.K g))(k:JE X a i)(o:JE X b j)(q:JE X c l)
  (r:lastMarks [d,U] [b,c]=false):JT X (.Compare a [d,U] [b,c] pos) (aY (kF f g i j l)):=PT.to (Iu O M k o q r) λz z z h=>zg (p7 h)
variable {aj:QD}
def NE (k:JT X a f):JW X (.BoolOp .And [a] pos) f:=MP k
def Se (k:JT X a f):JW X (.BoolOp .Or [a] pos) f:=Rp k
def Sf (k:JT X a f)(o:JW X (.BoolOp .And (b::aj) pos) g):JW X (.BoolOp .And (a::b::aj) pos) (bJ f g):=PW.to (Rr k o) λy y y=>λh=>by
 obtain⟨B,o,c,s,r,e,q⟩:=h;unfold bJ at e;cases M:f o with
 |none=>rw[M]at e;cases e
 |some k=>
  rw[M]at e;refine⟨B,o,k,s,r,M,λO z=>?_⟩;cases k with
  |true=>exact⟨B,o,c,s.trans z,r,e,λD F=>q D (z.trans F)⟩
  |false=>simp_all
def VR (k:JT X a f)(o:JW X (.BoolOp .Or (b::aj) pos) g):JW X (.BoolOp .Or (a::b::aj) pos) (gK f g):=PW.to (Vf k o) λy y y=>λh=>by
 obtain⟨B,o,c,s,r,e,q⟩:=h;unfold gK at e;cases M:f o with
 |none=>rw[M]at e;cases e
 |some k=>
  rw[M]at e;refine⟨B,o,k,s,r,M,λO z=>?_⟩;cases k with
  |false=>exact⟨B,o,c,s.trans z,r,e,λD F=>q D (z.trans F)⟩
  |true=>simp_all
def aa1 (h:JW X e f):JT X e f:=h.pt
def Sg (k:JT X a f):JT X (.UnaryOp .Not a pos) (kj f):=PT.to (λo s b H Q I h=>isTrue_not (k _ s b H _ I h)) λy y y=>λh=>by
 obtain⟨B,w,c,s,r,e,q⟩:=h;refine eS e λk z e=>?_;subst e;exact⟨B,w,k,s,r,z,λM=>q M⟩
@[simp] noncomputable def zh (f g:FE):FE:=λk=>match f k with|some (.bl true,_)=>g k|some (.bl false,_)=>some (.bl false,false)|_=>none
@[simp] noncomputable def Qx (f g:FE):FE:=λk=>match f k with|some (.bl true,_)=>some (.bl true,false)|some (.bl false,_)=>g k|_=>none
@[simp] noncomputable def Jb (f:FE):FE:=λk=>match f k with|some (.bl c,_)=>some (.bl (!c),false)|_=>none
def Sh (D:JE X a f)(F:JE X (.BoolOp .And (b::aj) pos) g):JE X (.BoolOp .And (a::b::aj) pos) (zh f g):=PE.to (Rv D F) λP H Q h=>by
 obtain⟨B,o,d,k,s,r,e,q⟩:=h;unfold zh at e;split at e
 .rename_i K O;refine⟨B,o,_,_,s,r,O,λv U z M w _=>?_⟩;cases w
  exact⟨true,rr,⟨z,o,d,k,M.nh,r.mono M.bn,e,q.into M⟩⟩
 .rename_i K O;cases e
  refine⟨B,o,_,_,s,r,O,λv U z M w _=>?_⟩;cases w
  exact⟨false,rr,(q.into M).one M.nh (.bl _)⟩
 simp_all
def VS (D:JE X a f)(F:JE X (.BoolOp .Or (b::aj) pos) g):JE X (.BoolOp .Or (a::b::aj) pos) (Qx f g):=PE.to (Vi D F) λP H Q h=>by
 obtain⟨B,o,d,k,s,r,e,q⟩:=h;unfold Qx at e;split at e
 .rename_i K O;cases e
  refine⟨B,o,_,_,s,r,O,λv U z M w _=>?_⟩;cases w
  exact⟨true,rr,(q.into M).one M.nh (.bl _)⟩
 .rename_i K O;refine⟨B,o,_,_,s,r,O,λv U z M w _=>?_⟩;cases w
  exact⟨false,rr,⟨z,o,d,k,M.nh,r.mono M.bn,e,q.into M⟩⟩
 simp_all
def Si (h:JE X a f):JE X (.BoolOp d [a] pos) f:=λq s k H Q I o=>BoolOp_one (h _ s k H Q I o)
set_option tactic.hygienic true in
def Sj (o:JE X a f):JE X (.UnaryOp .Not a pos) (Jb f):=PE.to (Rw o) λD H Q h=>by
 obtain⟨B,w,d,k,s,r,e,q⟩:=h;unfold Jb at e;split at e
 .rename_i c F O;cases e
  refine⟨B,w,_,_,s,r,O,λv U K M z _=>?_⟩;cases z
  exact⟨c,rr,(q.into M).one M.nh (.bl _)⟩
 simp_all
variable {es:QD}
def p8:JA X [] aw:=PA.to gJ λz z z=>Nu
def iJ (k:JE X e f)(M:JA X es g)(o:dS e es X.env:=by rfl):JA X (e::es) (ao f g):=PA.to (dI k M o) λu u u=>λh=>by
 obtain⟨B,c,F,s,r,e,q⟩:=h;refine eX e λx o e=>eX e λy a e=>?_;cases e
 exact⟨B,c,x.1,x.2,s,r,o,λv O N M w u=>⟨N,c,y,M.nh,r.mono M.bn,a,λP b z U D=>q _ b z (M.trans U) (.cons (w.mono U.bn) D)⟩⟩
@[simp] noncomputable def cS:LD->OB:=λk=>if k.length<=sizeLine then some (.tup k,false)else none
@[simp] noncomputable def eE:LD->OB:=λk=>if k.length<=sizeLine then some (.lst k,true)else none
def Sk(h:JA X es f):JE X (.Tuple es M pos) (fA cS f):=PE.to (rP h) λZ H Q q=>by
 obtain⟨B,F,K,s,r,e,k⟩:=Nt q;refine⟨B,F,K,s,r,e,λP O R M S=>?_⟩;refine cX λ_ g'=>?_;obtain⟨g,U,d,b,w,z,o,V⟩:=k P O R M S;apply g';unfold cS at o;split at o
 .rename_i W;cases o
  refine⟨by rw[z.length];exact W,λp D=>V _ _ _ (.laid w D) (.tup (iH.of av) (z.mono (Ext.laid w D).bn)) H9⟩
 simp_all
def Sl (h:JA X es f):JE X (.List es pos) (fA eE f):=PE.to (RC h) λZ H Q q=>by
 obtain⟨B,K,P,s,r,e,k⟩:=Nt q;refine⟨B,K,P,s,r,e,λF O R U S=>?_⟩;refine cX λ_ g'=>?_;obtain⟨g,M,d,b,w,z,D,V⟩:=k F O R U S;apply g';unfold eE at D;split at D
 .rename_i W;cases D
  refine⟨by rw[z.length];exact W,λp o=>V _ _ _ (.laid w o) (.lst (fW.of av) (z.mono (Ext.laid w o).bn)) λ_=>⟨p,F,M,rr,rr,o,av,z.mono (Ext.laid w o).bn⟩⟩
 simp_all
end
section
variable {X:Cx}
def jd (h:dj X f r)(k:∀x y H Q,U x y H Q->r x y H Q):dj X f U:=λb s a H x y v u Q I M O q=>h _ s a H x y v u Q I M O (k x y H Q q)
noncomputable def UC (f g:D->D->OB):D->D->OB:=λx y=>match f x y with|some r=>some r|none=>g x y
def p9 (h:dj X s (rD X.K f))(z:dj X s (rD X.K g)):dj X s (rD X.K (UC f g)):=by
 intro D k o H x y v u Q I M O q;refine e5 q λB w U d b a c i e q=>?_;unfold UC at e;split at e
 .rename_i r j;cases e
  exact h _ k o H x y v u Q I M O ⟨B,w,U,_,_,a,c,i,j,q⟩
 .exact z _ k o H x y v u Q I M O ⟨B,w,U,_,_,a,c,i,e,q⟩
@[simp] noncomputable def By (C:Int->Int->Bool)(g:Int->Int->D):D->D->OB
 |.int i,.int j=>if C i j=true then some (g i j,false)else none
 |_,_=>none
set_option tactic.hygienic true in
def nL (h:dj X s (rI C g))(M:∀i j,l i j=true->C i j)(O:∀i j B,Is X.K B (g i j) (m i j)):dj X s (rD X.K (By l m)):=by
 refine jd h λx y H Q q=>e5 q λB o f d b U a c e q=>?_;cases a<;>try (cases e)
 cases c<;>try (cases e)
 rename_i i j;simp only[By]at e;split at e
 .rename_i k;cases e
  exact⟨i,j,rr,rr,M i j k,q.one U (O i j B)⟩
 simp_all
set_option tactic.hygienic true in
def gD (h:dj X s (Iq g))(M:∀i j B,Is X.K B (g i j) (f i j)):dj X s (rD X.K (By (λ_ _=>true) f)):=by
 refine jd h λx y H Q q=>e5 q λB k c d b O U a e q=>?_;cases U<;>try (cases e)
 cases a<;>try (cases e;done)
 rename_i i j;cases e
 exact⟨i,j,rr,rr,q.one O (M i j B)⟩
abbrev aa2:D->D->OB:=By (λz z=>true) λi j=>.int (i+j)
abbrev aa3:D->D->OB:=By (λz z=>true) λi j=>.int (i - j)
abbrev VT:D->D->OB:=By (λi j=>decide ((-18446744073709551616<i/\i<18446744073709551616)\/(-18446744073709551616<j/\j<18446744073709551616))) λi j=>.int (i*j)
abbrev gL:D->D->OB:=By (λz j=>decide (0<j/\j<1073741824)) λi j=>.int (i / j)
abbrev kG:D->D->OB:=By (λz j=>decide (0<j)) λi j=>.int (i % j)
abbrev aa4:D->D->OB:=By (λi j=>decide (0<=j/\j<=1000000/\i.natAbs<18446744073709551616)) λi j=>.int (i ^ j.toNat)
abbrev aa5:D->D->OB:=By (λz z=>true) λi j=>.int (Builtin.bitAnd i j)
abbrev iLt:D->D->OB:=By (λz z=>true) λi j=>.bl (decide (i<j))
abbrev NF:D->D->OB:=By (λz z=>true) λi j=>.bl (decide (j<i))
abbrev iGe:D->D->OB:=By (λz z=>true) λi j=>.bl (decide (j<=i))
def VU:dj X (binaryOp .Add) (rD X.K aa2):=gD R4 λz z z=>.int _
def VV:dj X (binaryOp .Sub) (rD X.K aa3):=gD R5 λz z z=>.int _
def Sm:dj X (binaryOp .FloorDiv) (rD X.K gL):=nL MY (λi j h=>by simp_all[Vx]) λz z z=>.int _
def VX:dj X (binaryOp .Mod) (rD X.K kG):=nL R7 (λz z=>HN) λz z z=>.int _
def VY:dj X (binaryOp .Pow) (rD X.K aa4):=nL R8 (λi j h=>by simp_all[Vy]) λz z z=>.int _
def VZ:dj X (binaryOp .BitAnd) (rD X.K aa5):=gD R9 λz z z=>.int _
def aa9:dj X (compareOp .Gt) (rD X.K NF):=gD V2 λz z z=>.bl _
def aaA:dj X (compareOp .GtE) (rD X.K iGe):=gD V3 λz z z=>.bl _
@[simp] noncomputable def sop (C:Str->Str->Bool)(g:Str->Str->D):D->D->OB
 |.str i,.str j=>if C i j=true then some (g i j,false)else none
 |_,_=>none
abbrev aaC:D->D->OB:=sop (λi j=>decide (i.length+j.length<=sizeLine)) λi j=>.str (i++j)
abbrev sLe:D->D->OB:=sop (λz z=>true) λi j=>.bl (!decide (j.cps.toList<i.cps.toList))
set_option tactic.hygienic true in
def Sn:dj X (binaryOp .Add) (rD X.K aaC):=by
 refine jd BC λx y H Q q=>e5 q λB k a d b M O U e q=>?_;cases O<;>try (cases e)
 cases U<;>try (cases e)
 rename_i i j;simp only[sop]at e;split at e
 .rename_i c;cases e
  exact⟨i,j,rr,rr,HN c,q.one M (.str _)⟩
 simp_all
end
section
variable {X:Cx}{a b c e:Expr}{pos:Pos}{st:Stmt}{aj:List Stmt}
def So:ze X [] mv:=vn.to (λz z a H z I h=>wpAny_execs_nil ⟨a,H,I,h⟩) λz z z=>IT
def NG (k:JS X st g)(o:ze X aj h):ze X (st::aj) (ce g h):=vn.to ((by
 intro r s c H D I i;refine wpAny_execs_cons (bY (k _ s c H _ I i) λf e q=>?_);cases f with
 |next=>
  obtain⟨M,d,O,q⟩:=q;exact o _ e _ d D O q
 |ret v=>exact q
 |brk=>exact q
 |cont=>exact q:vn X (st::aj) (Vj (nH X.K g) (nH X.K h)))) λz z z=>λq=>by
 obtain⟨B0,H0,ρ,r,s,e,p⟩:=q;unfold ce at e;cases M:g ρ with
 |none=>rw[M]at e;cases e
 |some O=>
  rw[M]at e;cases O with
  |nx a=>exact⟨B0,H0,ρ,.nx a,s,M,λU H' c=>⟨B0,H0,a,r,c,e,p⟩⟩
  |rt d b=>cases e;exact⟨B0,H0,ρ,_,s,M,p⟩
  |bk a=>cases e;exact⟨B0,H0,ρ,_,s,M,p⟩
  |ct a=>cases e;exact⟨B0,H0,ρ,_,s,M,p⟩
def Sr (k:JS X st g):ze X [st] g:=by
 intro c s b H D I h;refine wpAny_execs_cons (bY (k _ s b H D I h) λf d q=>?_);cases f with
 |next=>exact wpAny_execs_nil q
 |ret v=>exact q
 |brk=>exact q
 |cont=>exact q
def Wb {c:Expr}{a b:List Stmt}{M:FT}{g h:FS}(k:JT X c M)(o:ze X a g)(r:ze X b h):JS X (.If c a b pos) (yN M g h):=PS.to (Vn k o r) λz z z=>λq=>by
 obtain⟨B0,H0,ρ,r,⟨N,s⟩,e,p⟩:=q;unfold yN at e;cases d:M ρ with
 |none=>rw[d]at e;cases e
 |some b=>
  rw[d]at e;refine⟨N,ρ,b,s.ext.nh,s.rep,d,λO a=>?_⟩;cases b with
  |true=>exact⟨B0,H0,ρ,r,.grown s a,e,p⟩
  |false=>exact⟨B0,H0,ρ,r,.grown s a,e,p⟩
def Jc (k:JE X e f):JS X (.Return (some e) pos) (za f):=PS.to (Ii k) λz z z=>λq=>by
 obtain⟨B0,H0,ρ,r,⟨N,s⟩,e,p⟩:=q;refine eS e λx a e=>?_;subst e;exact⟨N,ρ,x.1,x.2,s.ext.nh,s.rep,a,λv M c O k f1=>p v M c (s.ext.trans O) k λb=>(f1 b).back s.ext.hh⟩
def NH i(O:X.N[i]? = some x)(k:M6 X.env.scope x)(o:bB x)
  (M:mo x):JS X (.Return (some (.Name x p)) pos) (qt i):=PS.to (Ii (k8 O k o M)) λz z z=>IU
def Ss (M:X.N.Nodup)(k:JE X e f)(o:X.N[i]? = some x)(hx:M7 X.env.scope x)(r:swapsWith e (some (.Name x p)) pos.line X.env=pure false)
  (w:X.fn x=true\/X.env.scope.names.lookup x=some .local):JS X (.Assign [.Name x p] e pos) (dq i f):=PS.to (xz M o hx k r w) λz z z=>Dm
def NI (M:X.N.Nodup)(k:JE X e f)(o:X.N[i]? = some x)(hx:M7 X.env.scope x)(r:swapsWith e (some (.Name x p)) pos.line X.env=pure false)
  (w:X.fn x=true\/X.env.scope.names.lookup x=some .local):JS X (.Assign [.Name x p] e pos) (Dl i f):=PS.to (xz M o hx k r w) λz z z=>λq=>by
   obtain⟨B0,H0,ρ,r,⟨N,s⟩,e,p⟩:=q;refine eS e λx a e=>?_;subst e;refine⟨dZ N _,iI ρ,x.1,x.2,bN.trans s.ext.nh,s.repH,a,λv M o O b f1=>?_⟩;obtain⟨k,c⟩:=s.growH O;exact p _ M ⟨_,k.bind (b.mono c)⟩
def Jd n(k:PassesOwn (model X.prog X.w) X.A X.env X.xe)(o:JT X c O)(r:ze X M g):JS X (.While c M [] pos) (cy O g n):=PS.to (Im k o r) λz z z=>Gp
def Sv (r:JE X e f)(d:X.N[i]? = some x)(w:M6 X.env.scope x)(z:bB x)
  (g:mo x)
  (M:attributeBase (.Name x p) "append" X.env (eval (.Name x p) X.env)=eval (.Name x p) X.env)
  (U:qi j e X.env)
  (O:(l.endLine == j.line)=true) (o:d4 e X.env) (h:swapsWith (.Call (.Attribute (.Name x p) "append" l) [e] [] j) none pos.line X.env=pure false):
  JS X (.Expr (.Call (.Attribute (.Name x p) "append" l) [e] [] j) pos) (rX i f):=by
 refine PS.to (Db (yV plainAttrs_list PySem.F.slot_list_append PySem.F.type_list_append vw (k8 d w z g) (dI r gJ o) M U O o rr) h) λE R H q=>?_;obtain⟨a,D,K,P,k⟩:=Nx q;exact⟨_,K,.inl ⟨rr,D,fW.of P⟩,k⟩
end
@[simp] noncomputable def a0 (g:FS)(n k:Nat):LD->OB:=λa=>if a.length=n then
 match g (a.map (λd=>some (d,false))++List.replicate k none) with
 |some (.rt d b)=>some (d,b)
 |some (.nx _)=>some (.non,false)
 |_=>none
 else none
def M9 (K:Frag)(f:LD->OB):Sp:=λc H Q z=>∃(B:Hp)(a:LD)(d:D)(b:Bool),(aS B H/\Tb K B)/\IsL K B c a/\f a=some (d,b)/\Fin K B H d b Q
def zi {K:Frag}{B H:Hp}{c:LV}{q:LD}{N:LS}(O:aS B H)(P:Tb K B)(i:IsL K B c q):dG K B H B H (L2.mq N c) (q.map (λd=>some (d,false))++List.replicate (N.length - c.length) none):=by
 have M:∀(j:Nat)(d:D)(b:Bool),(q.map (λd=>some (d,false))++List.replicate (N.length - c.length) none:Env)[j]? = some (some (d,b))->b=false/\q[j]? = some d:=λj d b e=>by
  by_cases r:j<q.length
  .rw[getElem?_append_left (by simpa using r),vA]at e;refine eS e λS w F=>?_;cases F
   exact⟨rr,w⟩
  .rw[getElem?_append_right (by simpa using Nat.not_lt.mp r),List.getElem?_replicate]at e;split at e<;>cases e
 have R:∀a,¬own (L2.mq N c) (q.map (λd=>some (d,false))++List.replicate (N.length - c.length) none) a:=λa ⟨j,d,h,_⟩=>by
  obtain⟨z,y⟩:=M j d true h;cases z
 refine⟨O,P,.refl O,?_,λj d e=>?_,λj d e=>?_,λj k a d e h=>?_⟩
 .unfold L2.mq;rw[uZ,uZ,vI,vI,length_replicate,length_replicate,i.length]
 .obtain⟨_,U⟩:=M j d false e;obtain⟨v,w,F⟩:=i.get U;refine⟨v,?_,F.mono λa o e=>by rw[cH (R a)];exact e⟩;unfold L2.mq;have r:=(vV w).1;rw[getElem?_append_left (by simpa using r),vA,w]<;>rfl
 .obtain⟨z,_⟩:=M j d true e;cases z
 .obtain⟨z,_⟩:=M j d true h;cases z
section
variable {P:Program}{w:World}{K:Frag}{mg:SV}{base:Heap}
set_option tactic.hygienic true in
def aaD {x o:Str}{R:Stmt}{f:Addr}{t:FuncData}{N D:LS}{k:Nat}{g:FS}(F:Ul K x o R f t)(S:FnScope N D (aM R))
  (u:∀(X:Value)(A:Around)(r:List PySem.Env)(s:Shared)(H:Hp)(E:XK),eQ k (A.deeper (envOfC o (aM R) s.z f X))->ze (rQ Bw P w K mg base N o (aM R) f X A r s H E).nox (cr R) g):
  u7 P w K mg base Bw (k+1) f t D (M9 K (a0 g D.length (N.length - D.length))):=by
 have V:∀W H Q E,M9 K (a0 g _ (N.length - D.length)) W H Q E->W.length=D.length:=λW H Q E h=>by
  obtain⟨B,y,d,b,O,i,e,q⟩:=h;unfold a0 at e;split at e
  .rename_i C;rw[i.length];exact C
  simp_all
 refine F.ok S V λX A r s H W Q E c h=>⟨_,u _ A _ s H E c,?_⟩;have M:=V W H Q E h;refine cX λ_ g'=>?_;obtain⟨B,y,d,b,O,i,e,q⟩:=h;apply g';unfold a0 at e;rw[if_pos (by rw[<-i.length];exact M)]at e;have U:=zi (N:=N) O.1 O.2 i;rw[M]at U;split at e
 .rename_i J L a;cases e
  exact⟨B,H,_,_,⟨B,U⟩,a,λv Z p j l m=>q v Z p j l m⟩
 .rename_i G a;cases e
  exact⟨B,H,_,_,⟨B,U⟩,a,λn Z ⟨p,I⟩=>q _ Z p I.ext .non H9⟩
 simp_all
structure Fn (P:Program)(w:World)(K:Frag)(mg:Str->Option Value)(base:Heap)(k:Nat)(x:Str)(f:List D->OB):Prop where
 ex:∃(ad:Addr)(fd:FuncData)(ps:List Str),u7 P w K mg base Bw k ad fd ps (M9 K f)/\mg x=some (.ref ad)/\PySem.W.keepIn K (.ref ad)=true/\qk K fd ps []
end
mutual
noncomputable def gV:D->D->Bool
 |.non,.non=>true
 |.bl a,.bl b=>a == b
 |.bl a,.int b=>decide ((if a then 1 else 0)=b)
 |.int a,.bl b=>decide (a=(if b then 1 else 0))
 |.int a,.int b=>decide (a=b)
 |.str a,.str b=>decide (a=b)
 |.tup c,.tup k=>jB c k
 |.lst c,.lst k=>jB c k
 |_,_=>false
@[simp] noncomputable def jB:LD->LD->Bool
 |[],[]=>true
 |x::a,y::b=>gV x y && jB a b
 |_,_=>false
end
@[simp] theorem cu (a b:Str):gV (.str a) (.str b)=decide (a=b):=rfl
@[simp] def xx0:gV .non .non=true:=rfl
@[simp] def xx1 (a b:Bool):gV (.bl a) (.bl b)=(a == b):=rfl
@[simp] def xx2 (a b:Int):gV (.int a) (.int b)=decide (a=b):=rfl
@[simp] def xx3 (a b:LD):gV (.tup a) (.tup b)=jB a b:=rfl
@[simp] def xx4 (a b:LD):gV (.lst a) (.lst b)=jB a b:=rfl
@[simp] def xx5 (a:Str)(b:Int):gV (.str a) (.int b)=false:=rfl
@[simp] def xx6 (a:Int)(b:Str):gV (.int a) (.str b)=false:=rfl
@[simp] def xx12 (a:LD)(b:Str):gV (.lst a) (.str b)=false:=rfl
@[simp] noncomputable def aT:Nat->D->Bool
 |_,.non=>true
 |_,.bl _=>true
 |_,.int _=>true
 |_,.str _=>true
 |_,.ty _=>false
 |_,.dk _ _=>false
 |_,.dt _ _=>false
 |0,.tup _=>false
 |0,.lst _=>false
 |n+1,.tup a=>a.all (aT n)
 |n+1,.lst a=>a.all (aT n)
theorem zj:∀ {a b:LD},jB a b=true->a.length=b.length
 |[],[],_=>rr
 |x::a,y::b,h=>by
  simp at h;rw[vE,vE,zj h.2]
 |[],_::_,h=>by simp at h
 |_::_,[],h=>by simp at h
def xL (h:d.length≠e.length):jB d e=false:=by
 grind[zj]
theorem jC f:∀ {xs ys:LD},xs.length=ys.length->(∀j x y,xs[j]? = some x->ys[j]? = some y->f j=gV x y)->(List.range xs.length).all f=jB xs ys
 |[],[],_,_=>by simp
 |x::xs,y::ys,c,h=>by
  rw[vE,List.range_succ_eq_map,all_cons,List.all_map,jB,<-h 0 x y rr rr,<-jC _ (by simpa using c) λj a b k o=>h (j+1) a b (by simpa using k) (by simpa using o)];rfl
 |[],_::_,c,_=>by simp at c
 |_::_,[],c,_=>by simp at c
section
variable {X:Cx}{ag:AO}{σ:St}{H:Hp}{s:Shared}
def Dn (I:Inv X ag σ H s)(k:iH X.K H a d)(q:fW X.K H a f):False:=by
 obtain⟨r,z,⟨o,e,c,z⟩,z⟩:=I.tuple k;obtain⟨b,z,⟨w,M,O,U,z⟩,z⟩:=I.list q;simp_all
def Dp (I:Inv X ag σ H s)(e:s.heap.get? a=some o)(d:o.data=.seq f n):(∀b c,H a≠some (.dK b c))/\∀b,H a≠some (.dT b):=by
 refine⟨λb c h=>?_,λb h=>?_⟩
 .obtain⟨_,_,_,_,_,k,q,M,O,_,r,_⟩:=(show bA _ _ H _ a _ from I.hok a _ h);simp_all
 .obtain⟨_,_,_,_,k,q,M,O,_,r,_⟩:=(show bA _ _ H _ a _ from I.hok a _ h);simp_all
def zk (I:Inv X ag σ H s)(k:iH X.K H a f):(∀b q,H a≠some (.dK b q))/\∀b,H a≠some (.dT b):=by
 obtain⟨r,z,⟨o,e,c,n,d⟩,z⟩:=I.tuple k;exact Dp I e d
def zm (I:Inv X ag σ H s)(k:fW X.K H a f):(∀b q,H a≠some (.dK b q))/\∀b,H a≠some (.dT b):=by
 refine I.lisE k λr z p z=>?_;obtain⟨o,e,c,n,d⟩:=p.isList;exact Dp I e d
def Dq (I:Inv X ag σ H s):∀(n:Nat){v:V}{d r:D},Is X.K H v d->Is X.K H v r->aT n d=true->gV d r=true:=by
 have M:∀ {p:D->Bool}(U:∀ {v:V}{d r:D},Is X.K H v d->Is X.K H v r->p d=true->gV d r=true) {w:LV}{z O:LD},IsL X.K H w z->IsL X.K H w O->z.all p=true->jB z O=true:=by
  intro p U w;induction w with
  |nil=>intro z O h o y;cases h;cases o;rfl
  |cons v w a=>
   intro z O h o c;cases h with
   |cons k F=>
    cases o with
    |cons b q=>
     rw[all_cons,vC]at c;rw[jB,U k b c.1,a F q c.2];rfl
 intro n;induction n with
 |zero=>
  intro v d r h o c;cases h<;>cases o<;>first|(simp at c;done)|simp
 |succ n U=>
  intro v d r h o c;cases h with
  |tup k F=>
   cases o with
   |tup b q=>
    rw[I.tuple_inj b k]at q;exact M U F q (by simpa [aT]using c)
   |lst b q=>exact(Dn I k b).elim
   |dk b _ _=>exact((zk I k).1 _ _ b).elim
   |dt b _ _=>exact((zk I k).2 _ b).elim
  |lst k F=>
   cases o with
   |lst b q=>
    rw[I.list_inj b k]at q;exact M U F q (by simpa [aT]using c)
   |tup b q=>exact(Dn I b k).elim
   |dk b _ _=>exact((zm I k).1 _ _ b).elim
   |dt b _ _=>exact((zm I k).2 _ b).elim
  |ty=>simp at c
  |dk=>simp at c
  |dt=>simp at c
  |_=>cases o<;>simp
def zn {A:Around}{p:D->Bool}(g:∀ {U a:V}{W O:D}{b c:Value},p W=true->p O=true->Is X.K H U W->Is X.K H a O->aI U b->aI a c->SeqAt.EqAt A s b c (gV W O))
  {R S:LV}{F P:LD}{z M:LU}(Z:IsL X.K H R F) (y:IsL X.K H S P) (e:bd R z) (f:bd S M) (h:F.all p=true) (E:P.all p=true):
  ∀j B (C:j<M.toArray.size),SeqAt.EqAt A s z.toArray[j] M.toArray[j] (gV (F.getD j .non) (P.getD j .non)):=by
 intro j B C;rw[vH]at B C;have G:=e.length;have I:=f.length;have k:=Z.length;have l:=y.length;have J:j<R.length:=N9
 have L:j<S.length:=N9
 have N:j<F.length:=N9
 have Q:j<P.length:=N9
 refine cX λ_ g'=>?_;obtain⟨u,m,n⟩:=e.get (i:=j) (x:=R[j]) (by simp );obtain⟨T,Y,q2⟩:=f.get (i:=j) (x:=S[j]) (by simp );obtain⟨v,o,q⟩:=Z.get (i:=j) (d:=F[j]) (by simp );obtain⟨w,r,t⟩:=y.get (i:=j) (d:=P[j]) (by simp );apply g';grind
def xM {a b:LD}j x y(c:a[j]? = some x)(k:b[j]? = some y):gV (a.getD j .non) (b.getD j .non)=gV x y:=by
 simp_all
abbrev Wc (A:Around)(s:Shared)(M O:Value)(b:Bool):Prop:=SeqAt.RcAt A s M O b/\SeqAt.EqAt A s M O b/\SeqAt.RcNeAt A s M O (!b)
def Dr {M O:Addr}(a:SeqAt.RcAt A s (.ref M) (.ref O) b)(U:SeqAt.RcNeAt A s (.ref M) (.ref O) (!b))(h:M=O->b=true):Wc A s (.ref M) (.ref O) b:=by
 grind[SeqAt.EqAt.same,SeqAt.EqAt.of_refs]
def kH:Bool->Heap->Addr->AV->Prop
 |true,h,a,b=>h.IsList a b
 |false,h,a,b=>h.IsTuple a b
def zo (U:aT 0 d=true)(a:aT 0 e=true)(b:Is X.K H f d)(c:Is X.K H g e)(M:aI f h)(O:aI g i):Wc A s h i (gV d e):=by
 cases b<;>try (cases U;done)
 all_goals (first|(cases M;done)|obtain⟨t,rfl⟩:=M)
 all_goals (cases c<;>try (cases a;done))
 all_goals (first|(cases O;done)|obtain⟨k,rfl⟩:=O)
 all_goals (refine⟨?_,?_,?_⟩)
 exact .none_none;exact .same _;exact .none_none;iterate 3 exact .none_bool _
 iterate 3 exact .none_int _ _
 iterate 3 exact .none_str _ _
 iterate 3 exact .bool_none _
 iterate 3 exact .bool_bool _ _
 iterate 3 exact .bool_int _ _ _
 iterate 3 exact .bool_str _ _ _
 iterate 3 exact .int_none _ _
 iterate 3 exact .int_bool _ _ _
 iterate 3 exact .int_int _ _ _ _
 iterate 3 exact .int_str _ _ _ _
 iterate 3 exact .str_none _ _
 iterate 3 exact .str_bool _ _ _
 iterate 3 exact .str_int _ _ _ _
 iterate 3 exact .str_str _ _ _ _
def qY (M:A.units<cLine)(b:kH k s.heap a d)(c:aT 0 e=true)(o:Is X.K H f e)(O:aI f U):Wc A s (.ref a) U false/\Wc A s U (.ref a) false:=by
 cases o<;>try (cases c;done)
 all_goals (first|(cases O;done)|obtain⟨t,rfl⟩:=O)
 all_goals (cases k<;>refine⟨⟨?_,?_,?_⟩,?_,?_,?_⟩)
 iterate 3 exact .tuple_none b M
 iterate 3 exact .none_tuple b M
 iterate 3 exact .list_none b M
 iterate 3 exact .none_list b M
 iterate 3 exact .tuple_bool _ b M
 iterate 3 exact .bool_tuple _ b M
 iterate 3 exact .list_bool _ b M
 iterate 3 exact .bool_list _ b M
 iterate 3 exact .tuple_int _ _ b M
 iterate 3 exact .int_tuple _ _ b M
 iterate 3 exact .list_int _ _ b M
 iterate 3 exact .int_list _ _ b M
 iterate 3 exact .tuple_str _ _ b M
 iterate 3 exact .str_tuple _ _ b M
 iterate 3 exact .list_str _ _ b M
 iterate 3 exact .str_list _ _ b M
set_option tactic.hygienic true in
def Qy (I:Inv X ag σ H s):∀(n:Nat){A:Around}{m o:V}{Z i:D}{q r:Value},A.units+n<cLine->aT n Z=true->aT n i=true->Is X.K H m Z->Is X.K H o i->aI m q->aI o r->Wc A s q r (gV Z i):=by
 intro n;induction n with
 |zero=>exact λ_ d Q L N c f=>zo d Q L N c f
 |succ n G=>
  intro A m o Z i q r hu d Q L N c f;have M:A.units<cLine:=N9
  have t:∀ {m o:V}{Z i:D}{q r:Value},aT n Z=true->aT n i=true->Is X.K H m Z->Is X.K H o i->aI m q->aI o r->SeqAt.EqAt A.in1 s q r (gV Z i):=λd Q L N c f=>(G (A:=A.in1) (by show A.units+1+n<cLine;lia) d Q L N c f).2.1;have off:∀ {a b:D},aT 0 a=true->¬aT 0 b=true->gV a b=false/\gV b a=false:=λ{a b} h h'=>by
   cases a<;>try (cases h;done)
   all_goals (cases b<;>first|exact(h' rr).elim|exact⟨rr,rr⟩)
  by_cases f2:aT 0 i=true
  .by_cases f1:aT 0 Z=true
   .exact zo f1 f2 L N c f
   .rw[(off f2 f1).2];cases L with
    |tup R=>
     cases c
     refine I.tupE R λP _ O _=>?_;exact(qY (k:=false) M O f2 N f).1
    |lst R=>
     cases c
     refine I.lisE R λP _ O _=>?_;exact(qY (k:=true) M O.isList f2 N f).1
    |_=>simp at f1 d
  .by_cases f1:aT 0 Z=true
   .rw[(off f1 f2).1];cases N with
    |tup R=>
     cases f
     refine I.tupE R λP _ O _=>?_;exact(qY (k:=false) M O f1 L c).2
    |lst R=>
     cases f
     refine I.lisE R λP _ O _=>?_;exact(qY (k:=true) M O.isList f1 L c).2
    |_=>simp at f2 Q
   .cases N with
    |tup h2 Y=>
     cases f
     refine I.tupE h2 λu v g J=>?_;cases L with
     |tup R l=>
      cases c
      refine I.tupE R λP U O z=>?_;rename_i B ws S C vs W;have he:=zn (A:=A.in1) (p:=aT n) t l Y U v (by simpa using d) (by simpa using Q);have E:((List.range (min P.toArray.size u.toArray.size)).all (λj=>gV (W.getD j .non) (S.getD j .non)) && P.toArray.size == u.toArray.size)=gV (.tup W) (.tup S):=by
       show _=jB W S;rw[vH,vH,<-U.length,<-v.length,l.length,Y.length];by_cases hl:W.length=S.length
       .rw[<-hl,Nat.min_self,beq_self_eq_true,Bool.and_true];exact jC _ hl λj x y F e2=>(by
        simp_all)
       simp_all[xL]
      have rc:=SeqAt.RcAt.tuples O g M he;have w:=SeqAt.RcNeAt.tuples O g M he;rw[E]at rc w;exact Dr rc w λe=>by subst e;exact Dq I (n+1) (.tup R l) (.tup h2 Y) d
     |lst R l=>
      cases c
      refine I.lisE R λP U O z=>?_;refine⟨?_,?_,?_⟩<;>exact .list_tuple O.isList g M
     |_=>simp at f1 d
    |lst h2 Y=>
     cases f
     refine I.lisE h2 λu v g J=>?_;replace g:=g.isList;cases L with
     |lst R l=>
      cases c
      refine I.lisE R λP U O z=>?_;replace O:=O.isList;rename_i B ws S C vs W;have he:=zn (A:=A.in1) (p:=aT n) t l Y U v (by simpa using d) (by simpa using Q);have T:SeqAt.RcAt A s (.ref C) (.ref B) (gV (.lst W) (.lst S))/\SeqAt.RcNeAt A s (.ref C) (.ref B) (!gV (.lst W) (.lst S)):=by
       have hz:P.toArray.size=W.length/\u.toArray.size=S.length:=by rw[vH,vH,<-U.length,<-v.length,l.length,Y.length];simp
       by_cases hl:W.length=S.length
       .have E:(List.range P.toArray.size).all (λj=>gV (W.getD j .non) (S.getD j .non))=gV (.lst W) (.lst S):=by
         show _=jB W S;rw[hz.1];exact jC _ hl λj x y F e2=>by
          simp[F,e2]
        have hs:=(hz.1.trans hl).trans hz.2.symm;have rc:=SeqAt.RcAt.lists O g hs M he;have w:=SeqAt.RcNeAt.lists O g hs M he;rw[E]at rc w;exact⟨rc,w⟩
       .have hs:(P.toArray.size != u.toArray.size)=true:=by simp_all
        rw[show gV (.lst W) (.lst S)=false from xL hl];exact⟨.lists_lengths O g hs M,.lists_lengths O g hs M⟩
      exact Dr T.1 T.2 λe=>by subst e;exact Dq I (n+1) (.lst R l) (.lst h2 Y) d
     |tup R l=>
      cases c
      refine I.tupE R λP U O z=>?_;refine⟨?_,?_,?_⟩<;>exact .tuple_list O g M
     |_=>simp at f1 d
    |_=>simp at f2 Q
@[simp] def dL:D->D->OB:=λx y=>if aT 40 x=true/\aT 40 y=true then some (.bl (gV x y),false)else none
@[simp] def lD:D->D->OB:=λx y=>if aT 40 x=true/\aT 40 y=true then some (.bl (!gV x y),false)else none
def aaE (o:X.A.units+40<cLine):dj X (compareOp .Eq) (rD X.K dL):=by
 intro ag s σ H x y v u Q I O U q;refine e5 q λB r f d b M a c e q=>?_;unfold dL at e;split at e
 .rename_i k;cases e
  exact(Qy I 40 o k.1 k.2 (a.mono M) (c.mono M) O U).1 _ _ _ _ ⟨.bl _,H,I,rr,q.one M (.bl _)⟩
 simp_all
def aaF (o:X.A.units+40<cLine):dj X (compareOp .NotEq) (rD X.K lD):=by
 intro ag s σ H x y v u Q I O U q;refine e5 q λB r f d b M a c e q=>?_;unfold lD at e;split at e
 .rename_i k;cases e
  exact(Qy I 40 o k.1 k.2 (a.mono M) (c.mono M) O U).2.2 _ _ _ _ ⟨.bl _,H,I,rr,q.one M (.bl _)⟩
 simp_all
end
section
variable {X:Cx}{a b e:Expr}{pos:Pos}
def Ds {K:Frag}(h:IsL K H c k)(e:mr k i=some d):∃v,mr c i=some v/\Is K H v d:=by
 unfold mr at e |-;rw[h.length];cases q:HX _ i with
 |none=>rw[q]at e;cases e
 |some j=>rw[q]at e;exact h.get e
@[simp] noncomputable def cI:D->D->OB
 |.lst k,.int i=>(mr k i).map λd=>(d,false)
 |.tup k,.int i=>(mr k i).map λd=>(d,false)
 |.str z,.int i=>if z.length<=sizeLine then (mr z.cps.toList i).map λc=>(.str ⟨#[c]⟩,false)else none
 |_,_=>none
set_option tactic.hygienic true in
def Wd (c:JE X a d)(k:JE X b M)(o:nD b):JE X (.Subscript a b pos) (f2 cI d M):=PE.to (IA (by
 intro U f S s r H x y v u Q I g j q z;refine e5 q λB V m d b M k l e q=>?_;cases k<;>try (cases e)
 all_goals (cases l<;>try (cases e))
 .simp only[cI]at e;split at e
  .rename_i R;refine eS e λc O o=>?_;cases o
   exact BH _ _ _ s r H _ _ v u Q I g j ⟨_,_,c,rr,rr,R,O,q.one M (.str _)⟩ z
  simp_all
 .rename_i h D i;refine eS e λc O o=>?_;cases o
  obtain⟨w,F,P⟩:=Ds D O;exact IB _ _ _ s r H _ _ v u Q I g j ⟨_,_,_,w,rr,rr,bf M h,F,q.one M P⟩ z
 .rename_i h D i;refine eS e λc O o=>?_;cases o
  obtain⟨w,F,P⟩:=Ds D O;exact Nj _ _ _ s r H _ _ v u Q I g j ⟨_,_,_,w,rr,rr,M.seq h,F,q.one M P⟩ z) c k o) λ_ _ _=>Nr
abbrev FO:=Env->Option OI
def tDO (K:Frag)(f:FO):TO:=λq H Q=>∃(B:Hp)(c:Env)(o:OI),aS B H/\fQ K B q c/\f c=some o/\∀k,aS H k->Q o k
abbrev JO (X:Cx)(e:Option Expr)(f:FO):Prop:=PO X e (tDO X.K f)
@[simp] def kI:FO:=λz=>some none
@[simp] noncomputable def iL (f:FE):FO:=λc=>match f c with|some (.int i,_)=>some (some i)|_=>none
def NL:JO X none kI:=λk s c H Q I h=>Nf _ s c H Q I (by
 obtain⟨B,w,o,M,r,e,q⟩:=h;cases e
 exact q H (.refl H))
set_option tactic.hygienic true in
def NM (h:JE X e f):JO X (some e) (iL f):=λD s k H Q I q=>Ng h _ s k H Q I (by
 obtain⟨B,w,o,M,r,e,q⟩:=q;unfold iL at e;split at e
 .rename_i i F O;cases e
  refine⟨B,w,_,_,M,r,O,λv U K c z _=>?_⟩;cases z
  exact⟨i,rr,q U c.hh⟩
 simp_all)
def mE (c:LD)(k o:OI):LD:=(c.drop (HT.dP c.length 0 k)).take (HT.dP c.length c.length o - HT.dP c.length 0 k)
def xN {K:Frag}(h:IsL K H c k):IsL K H (uE c o q) (mE k o q):=by
 unfold uE mE;rw[h.length];exact(h.drop _).take _
def bH.to (h:bH X f r)(k:∀c H Q,O c H Q->r c H Q):bH X f O:=λz s o H c w Q I M q=>h _ s o H c w Q I M (k c H Q q)
variable {es:QD}{x:Str}{p:Pos}{id T:String}
def Je (c:bH X (.builtin id) (yM X.K f))(k:X.mg x=none)(o:bootBuiltins x=some (.builtin id))(q:JA X (e::es) d)(U:Gl X x)(r:x ≠ "__name__")(M:bB x)
  (w:dS e es X.env) (O:k7 pos es X.env):JE X (.Call (.Name x p) (e::es) [] pos) (fA f d):=PE.to (rS c U k o q r M w O) λz z z=>Nt
def Gu (c:bH X (.type T) (yM X.K f))(k:X.mg x=none)(o:bootBuiltins x=some (.type T))(q:JA X (e::es) d)(U:Gl X x)(r:x ≠ "__name__")(M:bB x)
  (w:dS e es X.env) (O:k7 pos es X.env):JE X (.Call (.Name x p) (e::es) [] pos) (fA f d):=PE.to (p0 c U k o q r M w O) λz z z=>Nt
@[simp] noncomputable def nM:LD->OB
 |[.lst c]=>some (.int c.length,false)
 |[.tup c]=>some (.int c.length,false)
 |[.str z]=>if z.length<=sizeLine then some (.int z.length,false)else none
 |_=>none
set_option tactic.hygienic true in
def We:bH X (.builtin "len") (yM X.K nM):=by
 refine bH.to (bH.or xC xD) λw H Q q=>?_;refine e6 q λB z d b M i e q=>?_;cases i with
 |nil=>simp at e
 |cons k o=>
  cases o with
  |cons _ _=>cases k<;>simp at e
  |nil=>
   cases k<;>try (simp at e;done)
   .simp only[nM]at e;split at e
    .rename_i r;cases e
     exact .inr ⟨_,rr,r,q.one M (.int _)⟩
    simp_all
   .rename_i h c;cases e
    refine .inl ⟨_,_,rr,.inr (bf M h),?_⟩;rw[c.length];exact q.one M (.int _)
   .rename_i h c;cases e
    refine .inl ⟨_,_,rr,.inl (M.seq h),?_⟩;rw[c.length];exact q.one M (.int _)
def Wf (c:X.mg x=none)(k:bootBuiltins x=some (.type n))(M:Gl X x)(o:x ≠ "__name__")(q:bB x):JE X (.Name x pos) (fC (.ty n)):=
 PE.to ( λz z z H z I h=>jb I M c k ⟨(.ty n),H,I,rr,h⟩ o q) λz z z=>Gs (λz=>.ty n)
end
def kx (M:eQ k A):A.units+40<cLine:=by have:=M.un;lia
section
variable {X:Cx}{a b e:Expr}{pos:Pos}{x:Str}{p:Pos}
def Jf (h:∃u v,X.mg x=some u/\aI v u/\∀B,Is X.K B v d)(M:Gl X x)(c:bB x):JE X (.Name x pos) (fC d):=by
 obtain⟨u,v,k,r,i⟩:=h;exact PE.to (qW M k r c) λz z z=>Gs i
@[simp] noncomputable def Wg:D->D->OB
 |.int i,.int j=>some (.int (i+j),false)
 |.str i,.str j=>if i.length+j.length<=sizeLine then some (.str (i++j),false)else none
 |_,_=>none
@[simp] def zp:D->D->OB:=VT
def Sw:dj X (binaryOp .Mult) (rD X.K zp):=nL R6 (λi j h=>by simp_all[MX]) λz z z=>.int _
@[simp] def Jg:D->D->OB:=iLt
def Wh:dj X (compareOp .Lt) (rD X.K Jg):=gD V0 λz z z=>.bl _
@[simp] noncomputable def yO:D->D->OB
 |.int i,.int j=>some (.bl (decide (i<=j)),false)
 |.str i,.str j=>some (.bl (!decide (j.cps.toList<i.cps.toList)),false)
 |_,_=>none
def Wi:dj X (compareOp .LtE) (rD X.K yO):=by
 refine jd (p9 (gD V1 λz z z=>.bl _) (by
  intro k s o H x y v u Q I M O q;refine e5 q λB r f d b U a c e q=>?_;cases a<;>try (cases e)
  cases c<;>try (cases e;done)
  cases e
  obtain⟨t,rfl⟩:=M;obtain⟨w,rfl⟩:=O;exact PySem.P.le_str ⟨.bl _,H,I,rr,q.one U (.bl _)⟩:dj X (compareOp .LtE) (rD X.K sLe))) λx y H Q q=>e5 q λB k M d b O U c e q=>?_;refine⟨B,k,M,d,b,O,U,c,?_,q⟩;cases k<;>try (cases e)
 all_goals (cases M<;>try (done))
 all_goals simp_all[UC]
@[simp] noncomputable def Jh:D->OB
 |.int i=>some (.int (-i),false)
 |_=>none
def Wj:Vt X (unaryOp .USub) (rDU X.K Jh):=by
 intro k s c H x v Q I M q;obtain⟨B,o,d,b,O,U,e,q⟩:=q;cases U<;>try (simp at e;done)
 cases e
 exact (unI λz z z z z=>neg_int) _ s c H _ v Q I M ⟨_,rr,q.one O (.int _)⟩
@[simp] noncomputable def Gv:D->D->Option Bool
 |x,.non=>some (match x with|.non=>true|_=>false)
 |x,.bl b=>some (match x with|.bl a=>a == b|_=>false)
 |_,_=>none
@[simp] def Gw:D->D->OB:=λx y=>(Gv x y).map λb=>(.bl b,false)
@[simp] def mF:D->D->OB:=λx y=>(Gv x y).map λb=>(.bl (!b),false)
set_option tactic.hygienic true in
def Dt {K:Frag}{B:Hp}{x y:V}{v u:Value}{o M:D}{k:Bool}(U:Is K B x o)(f:Is K B y M)(O:aI x v)(g:aI y u)(e:Gv o M=some k):plainIs v u=true/\(v == u)=k:=by
 cases f<;>(first|(cases e;done)|skip)
 all_goals (cases U)
 all_goals (first|(obtain⟨t,rfl⟩:=O)|cases O)
 all_goals (cases g)
 all_goals (cases e)
 all_goals (first|exact⟨rr,rr⟩|skip)
 all_goals (rename_i c d;cases c<;>cases d<;>exact⟨rr,rr⟩)
def aaH:dj X (compareOp .Is) (rD X.K Gw):=by
 intro z s D H x y v u Q I M O q;refine e5 q λB F g d b U c f e q=>eS e λk o e=>?_;cases e
 obtain⟨r,w⟩:=Dt c f M O o;refine wpAny_is_plain r ⟨.bl k,H,I,by rw[w];rfl,q.one U (.bl _)⟩
def NO:dj X (compareOp .IsNot) (rD X.K mF):=by
 intro z s D H x y v u Q I M O q;refine e5 q λB F g d b U c f e q=>eS e λk o e=>?_;cases e
 obtain⟨r,w⟩:=Dt c f M O o;refine wpAny_isNot_plain r ⟨.bl _,H,I,by rw[w];rfl,q.one U (.bl _)⟩
@[simp] noncomputable def iM:D->Bool
 |.non=>true|.bl _=>true|.int _=>true|.str _=>true
 |_=>false
noncomputable def MA (x:D)(c:LD):Bool:=c.any λy=>gV y x
@[simp] noncomputable def gE:D->Option LD
 |.lst c=>some c
 |.tup c=>some c
 |_=>none
@[simp] def Bz:D->D->OB:=λx y=>(gE y).bind λc=>if iM x=true/\c.all iM=true then some (.bl (MA x c),false)else none
@[simp] def fY:D->D->OB:=λx y=>(gE y).bind λc=>if iM x=true/\c.all iM=true then some (.bl (!MA x c),false)else none
def si {K:Frag}(i:Is K B v d)(h:iM d=true):mu v=true:=by
 cases i<;>first|rfl|(simp at h)
def aaI {K:Frag}{d e:D}(i:Is K B v d)(j:Is K B w e)(h:iM d=true)(c:iM e=true):Nl v w=gV d e:=by
 cases i<;>(first|(simp at h)|skip)
 all_goals (cases j<;>(first|(done)|skip))
 all_goals rfl
theorem zq {K:Frag}{c:LV}{k:LD}(h:IsL K B c k):k.all iM=true->c.all mu=true:=h.ind (λ_=>rr) λi _ t h=>by
  rw[all_cons,vC]at h;rw[all_cons,si i h.1,t h.2];rfl
theorem Ji {K:Frag}{B:Hp}(j:Is K B v d)(k:iM d=true){o:LV}{c:LD}(h:IsL K B o c):c.all iM=true->ZB v o=MA d c:=h.ind (λ_=>rr) λi _ t h=>by
  rw[all_cons,vC]at h;have e:=t h.2;unfold ZB MA at *;rw[any_cons,any_cons,e,aaI i j h.1 k]
set_option tactic.hygienic true in
def Wk:dj X (compareOp .In) (rD X.K Bz):=by
 refine jd (by
  intro R s S H x y v u Q I M O h;obtain⟨p,V,rfl,k,F,o,q⟩:=h;cases O
  rcases k with k|k
  .refine I.lisE k λc r z P=>?_;refine SeqAt.in_listAt (BJ x) z.isList (λw D=>k9 M F r o w (by simpa using D)) ⟨.bl _,H,I,rr,?_⟩;rw[show c.toArray.any (BJ x)=c.any (BJ x) by simp,nE r o];exact q
  .refine I.tupE k λc r z P=>?_;refine SeqAt.in_tupleAt (BJ x) z (λw D=>k9 M F r o w (by simpa using D)) ⟨.bl _,H,I,rr,?_⟩;rw[show c.toArray.any (BJ x)=c.any (BJ x) by simp,nE r o];exact q:dj X (compareOp .In) (rIn X.K false)) λx y H Q q=>?_;obtain⟨B,w,c,d,b,M,O,U,e,q⟩:=q;refine eX e λz r e=>?_;split at e
 .rename_i k;cases e
  cases U<;>simp [gE]at r<;>try (cases r;done)
  .rename_i h o;cases r
   exact⟨_,_,rr,.inr (bf M h),si O k.1,zq o k.2,by rw[Ji O k.1 o k.2];exact q.one M (.bl _)⟩
  .rename_i h o;cases r
   exact⟨_,_,rr,.inl (M.seq h),si O k.1,zq o k.2,by rw[Ji O k.1 o k.2];exact q.one M (.bl _)⟩
 lia
set_option tactic.hygienic true in
def Jj:dj X (compareOp .NotIn) (rD X.K fY):=by
 refine jd (by
  intro R s S H x y v u Q I M O h;obtain⟨p,V,rfl,k,F,o,q⟩:=h;cases O
  rcases k with k|k
  .refine I.lisE k λc r z P=>?_;refine SeqAt.notIn_listAt (BJ x) z.isList (λw D=>k9 M F r o w (by simpa using D)) ⟨.bl _,H,I,rr,?_⟩;rw[show c.toArray.any (BJ x)=c.any (BJ x) by simp,nE r o];exact q
  .refine I.tupE k λc r z P=>?_;refine SeqAt.notIn_tupleAt (BJ x) z (λw D=>k9 M F r o w (by simpa using D)) ⟨.bl _,H,I,rr,?_⟩;rw[show c.toArray.any (BJ x)=c.any (BJ x) by simp,nE r o];exact q:dj X (compareOp .NotIn) (rIn X.K true)) λx y H Q q=>?_;obtain⟨B,w,c,d,b,M,O,U,e,q⟩:=q;refine eX e λz r e=>?_;split at e
 .rename_i k;cases e
  cases U<;>simp [gE]at r<;>try (cases r;done)
  .rename_i h o;cases r
   exact⟨_,_,rr,.inr (bf M h),si O k.1,zq o k.2,by rw[Ji O k.1 o k.2];exact q.one M (.bl _)⟩
  .rename_i h o;cases r
   exact⟨_,_,rr,.inl (M.seq h),si O k.1,zq o k.2,by rw[Ji O k.1 o k.2];exact q.one M (.bl _)⟩
 simp_all
def Qz:bootBuiltins "len" = some (.builtin "len"):=PySem.boot_len
def nN:bootBuiltins "isinstance" = some (.builtin "isinstance"):=s9
def Wl:bootBuiltins "min" = some (.builtin "min"):=s9
def Wm:bootBuiltins "all" = some (.builtin "all"):=s9
def Q0:bootBuiltins "int" = some (.type "int"):=s9
def Sx:bootBuiltins "bool" = some (.type "bool"):=s9
def Wn:bootBuiltins "str" = some (.type "str"):=s9
def BO:bootBuiltins "list" = some (.type "list"):=s9
def Du:bootBuiltins "tuple" = some (.type "tuple"):=s9
@[simp] noncomputable def Wo:LD->OB
 |[.int i,.int j]=>some (.int (if j<i then j else i),false)
 |_=>none
def Jk {K:Frag}(h:IsL K B c [.int i,.int j]):c=[.int i,.int j]:=by
 cases h with
 |cons k o=>cases k;cases o with|cons q r=>cases q;cases r;rfl
def Wp (c:X.calm=true):bH X (.builtin "min") (yM X.K Wo):=by
 refine bH.to ((by
  intro D s F H w K Q I r h;obtain⟨i,j,rfl,q⟩:=h;obtain⟨u,M,rfl,⟨t,rfl⟩,⟨P,rfl⟩⟩:=Iv r;refine min_two_ints (I.ok.hd c) λR S k=>⟨_,H,I.kept k,?_,q⟩;by_cases o:j<i
  .rw[if_pos o,if_pos o];exact⟨_,rr⟩
  .rw[if_neg o,if_neg o];exact⟨_,rr⟩:bH X (.builtin "min") (λw H Q=>∃i j,w=[.int i,.int j]/\Q (.int (if j<i then j else i)) H))) λo H Q q=>e6 q λB k d b M i e q=>?_;match k,e with
 |[.int O,.int U],e=>cases e;exact⟨O,U,Jk i,q.one M (.int _)⟩
@[simp] noncomputable def je:D->String
 |.non=>"NoneType" | .bl _=>"bool" | .int _=>"int" | .str _=>"str" | .ty _=>"type" | .tup _=>"tuple" | .lst _=>"list" | .dk _ _=>"dict" | .dt _ _=>"dict"
@[simp] noncomputable def Gx:D->Bool
 |.ty _=>true
 |_=>false
@[simp] noncomputable def Dv (t n:String):OB:=
 if n = "int" then some (.bl (t == "int" || t == "bool"),false)else if n = "bool" then some (.bl (t == "bool"),false)else if n = "str" then some (.bl (t == "str"),false)
 else if n = "list" then some (.bl (t == "list"),false)else if n = "tuple" then some (.bl (t == "tuple"),false)else none
@[simp] def qu:LD->OB
 |[d,.ty n]=>if Gx d=true then none else Dv (je d) n
 |_=>none
def NP {F:AO}{P:St}{H:Hp}{s:Shared}{A:Around}{E:QV}{Q:QV}{c:Value}{b:Bool}{v:V}{d:D}{u:Value}(I:Inv X F P H s)(i:Is X.K H v d)(R:∀n,d≠.ty n)(M:aI v u)(e:PySem.W.kitOne X.K (.type (je d)) c=some b)(h:∀S,Q (.bool b) { s with toks:=S }):
  wpAny (model X.prog X.w) A (call (.builtin "isinstance") [u,c]) Q E s:=by
 cases i with
 |non=>exact gT I M .non e h
 |bl y=>exact gT I M (.bl y) e h
 |int y=>exact gT I M (.int y) e h
 |str y=>exact gT I M (.str y) e h
 |ty n=>exact absurd rr (R n)
 |dk k _ _=>exact gT I M (.dK k) e h
 |dt k _ _=>exact gT I M (.dT k) e h
 |tup O _=>
  cases M
  obtain⟨q,x,⟨o,k,r,x⟩,x⟩:=I.tuple O;exact kia_one PySem.W.kitx_tuple I.kIn ⟨o,k,r⟩ e (λz=>nomatch z) h
 |lst Z _=>
  cases M
  obtain⟨q,x,⟨o,n,k,r,x⟩,x⟩:=I.list Z;exact kia_one PySem.W.kitx_list I.kIn ⟨o,k,r⟩ e (λz=>nomatch z) h
def Jl K d(c:∀n,d≠.ty n):
  PySem.W.kitOne K (.type (je d)) (.type "int")=some (je d == "int" || je d == "bool")/\PySem.W.kitOne K (.type (je d)) (.type "bool")=some (je d == "bool")/\PySem.W.kitOne K (.type (je d)) (.type "str")=some (je d == "str") /\
   PySem.W.kitOne K (.type (je d)) (.type "list")=some (je d == "list")/\PySem.W.kitOne K (.type (je d)) (.type "tuple")=some (je d == "tuple"):=by
 cases d<;>(first|exact absurd _ _|skip)
 all_goals (refine⟨?_,?_,?_,?_,?_⟩<;>kernel_rfl)
set_option tactic.hygienic true in
def xO:bH X (.builtin "isinstance") (yM X.K qu):=by
 intro S s D H V Z Q I O q;refine e6 q λB t d b M i e q=>?_;cases i with
 |nil=>cases e
 |cons F i=>cases i with
 |nil=>cases e
 |cons P i=>
  cases P<;>try (cases e)
  cases i<;>try (cases e)
  rename_i r n;obtain⟨g,h,rfl,U,c⟩:=Iv O;cases c
  simp only[qu]at e;split at e
  .cases e
  .rename_i f;have w:∀n,r≠.ty n:=λn z=>by subst z;exact f rr
   obtain⟨j,u,l,m,o⟩:=Jl X.K r w;have v:∀ {k:Bool},PySem.W.kitOne _ _ (.type n)=some k->Fin X.K B H _ _ Q->wpAny _ X.A _ (EP X _ D Q) X.xe s:=λ{k} hk q=>
    NP I (F.mono M) w U hk λR=>⟨.bl k,H,I.tok R,rr,q.one M (.bl k)⟩
   unfold Dv at e;grind
@[simp] def Jm (f:FE):FA:=λc=>(f c).bind λx=>gE x.1
def Dx (h:JE X e f):JI X m e (Jm f):=by
 intro C s Z H R I q;refine cX λp g'=>?_;obtain⟨B,n,E,g,r,j,q⟩:=q;apply g';refine eX j λx t P=>?_;obtain⟨u,l⟩:=x;cases u<;>simp [gE]at P<;>try (cases P;done)
 .cases P
  refine R0 h _ s Z H R I ⟨B,n,_,_,g,r,t,λv c D U S p=>?_⟩;cases S with
  |@tup a o _ O F=>
   refine⟨a,rr,⟨o,bf U.nh O⟩,q _ c D U λi A w=>⟨λd V=>?_,λM=>⟨o,bf w O,by rw[F.length];exact M⟩⟩⟩;obtain⟨v,K,W⟩:=F.get V;refine⟨⟨o,v,bf w O,K⟩,λy k z=>?_⟩;obtain⟨rfl,z⟩:=z;have:=z o (bf w O);rw[K]at this;cases this;exact⟨D,.refl w,W⟩
 .cases P
  refine MU h _ s Z H R I ⟨B,n,_,_,g,r,t,λv c D U S p=>?_⟩;cases S with
  |@lst a o _ O F=>
   refine⟨a,rr,⟨o,U.nh.seq O⟩,q _ c D U λi A w=>⟨λd V=>?_,λM=>⟨o,w.seq O,by rw[F.length];exact M⟩⟩⟩;obtain⟨v,K,W⟩:=F.get V;refine⟨⟨o,v,w.seq O,K⟩,λy k z=>?_⟩;obtain⟨rfl,z⟩:=z;have:=z o (w.seq O);rw[K]at this;cases this;exact⟨D,.refl w,W⟩
noncomputable def fE (c:Int)(n:Nat):LD:=(List.range n).map λ(k:Nat)=>.int (c+(k:Int))
def Jn {K:Frag}(q)n:mD K (Z8 q n) B (fE q n):=by
 intro i H s;unfold fE;refine⟨λd c=>?_,λr=>by rw[vI,length_range]at r;exact r⟩;rw[vA]at c;refine eS c λk w c=>?_;have o:=vV w;obtain⟨M,o⟩:=o;rw[length_range]at M;rw[List.getElem_range]at o;subst o c;refine⟨M,λx D z=>?_⟩;obtain⟨rfl,rfl⟩:=z;exact⟨B,.refl s,.int _⟩
@[simp] def kJ (f:FE):FA:=λc=>match f c with
 |some (.int j,_)=>if -1000<=j/\j<=1000 then some (fE 0 j.toNat)else none
 |_=>none
set_option tactic.hygienic true in
def zr (w:X.mg "range" = none)(h:JE X a f)(O:Gl X "range":=by rfl)(o:d4 a X.env:=by rfl):PI X i (.Call (.Name "range" p) [a] [] pos) (VN X.K (kJ f)):=by
 refine PI.to (Ga O w (iJ h p8 o) o) λP H R q=>?_;obtain⟨B,z,S,U,r,M,q⟩:=q;unfold kJ at M;split at M
 .rename_i j V c;split at M
  .cases M
   refine⟨B,z,[.int j],U,r,by simp[c],λW d D g k=>?_⟩;cases k with
   |cons k F=>
    cases k;cases F
    exact⟨j,rr,N9,O_,q _ d D g λ_=>Jn 0 _⟩
  simp_all
 simp_all
def Jo (c:X.mg "range" = none)(h:JE X a f)(M:Gl X "range")(k:d4 a X.env):JI X d (.Call (.Name "range" p) [a] [] pos) (kJ f):=
 PI.to (zr c h M k) λD H R ⟨B,o,w,O,r,U,q⟩=>⟨B,o,w,O,r,U,λJ z N x h=>q J z N x (h _)⟩
end
def Dy (K:Frag)(x:Str)(a:Stmt):Prop:=∃(f:Addr)(b:FuncData),Ul K x x a f b/\nsIn K mainGlobals x=some (some (.ref f))
def def_mk {K:Frag}{D:Array (Option Value)}{kV o F q P:Value}(a:nsIn K mainGlobals x=some (some (.ref f)))
  (l:K.lookup f=some ⟨r,w,.func (fnOf x x (gR b) (cr b) (aM b) .none kV o F z q P),D⟩) (c:PySem.W.codeIn K q x=true) (k:PySem.W.keepIn K (.ref f)=true):Dy K x b:=⟨f,_,⟨⟨r,w,kV,o,F,z,q,P,D,rr,l,c⟩,k⟩,a⟩
section
variable {P:Program}{w:World}{K:Frag}{mg:SV}{base:Heap}
end
def Wr (H:Hp):Prop:=∀b,H b=none\/(∃o a,H b=some (.frz o (.lst a)))\/∃q,H b=some (.tbl q)
noncomputable def sj (M:List (Addr×Str))(G:Hp):Hp:=λb=>match M.lookup b with|some q=>some (.tbl q)|none=>G b
def gF (e:M.lookup b=some q):sj M G b=some (.tbl q):=by unfold sj;rw[e]
def jo (e:M.lookup b=none):sj M G b=G b:=by unfold sj;rw[e]
def Gy {P:Program}{w:World}{K:Frag}{mg mb:SV}{k:Nat}{fa a:Addr}{fd:FuncData}{x:Str}{sp:Sp}{M:Shared}{vs:LU}{ns:LI}(O:List (Addr×Str))
  (N:∀b q,O.lookup b=some q->M.heap.get? b=some (PySem.W.tabObj #[])/\isCodeTable M.heap b) (t:PySem.W.noTabs K=true)
  (y:K.In M.heap) (D:M.heap.Ns mainGlobals mg) (hb:M.heap.Ns builtinsNs mb) (A:∀x:Str,x ≠ "__name__"->mb x=bootBuiltins x) (B:M.heap.NoLimit)
  (Q:∃bm ob,mg "__builtins__" = some (.ref bm)/\bm≠builtinsNs/\M.heap.get? bm=some ob/\ob.cls=.type "module"/\ob.dict=some builtinsNs/\ob.data=.plain) (R:M.gens=#[])
  (ha:M.heap.get? a=some { cls:=.type "list",data:=.seq vs.toArray }) (hi:IntsAre vs ns) (hl:ns.length<=sizeLine) (S:eQ k callerA)
  (F:∀base:Heap,K.In base->base.Ns mainGlobals mg->u7 P w K mg base Bw k fa fd [x] sp) (T:∀(s:Shared)(u:Value),BindsTo s fd ⟨[u],[]⟩ [(x,u)])
  (X:∀H:Hp,(∀b q,O.lookup b=some q->H b=some (.tbl q))->fW K H a (ns.map V.int)->sp [.ref a] H (λv _=>v=.bl true) λ_ _ _=>False):
  codeAny (model P w) callerA (.call (.ref fa) ⟨[.ref a],[]⟩) (λr s'=>r=.ok (.ret (.bool true))/\OldK M.heap s'.heap/\s'.os=M.os/\AllBare s'.gens) M:=by
 have E:=L2.gU hi;have Y:=hi.length;have I:∀H:Hp,Wr H->(∀b q,O.lookup b=some q->H b=some (.tbl q))->fW K H a (ns.map V.int)->ml P w H M.heap->(∀b q,H b=some (.tbl q)->M.heap.get? b=some (PySem.W.tabObj #[])/\isCodeTable M.heap b) ->
   (∀b o u,H b=some (.frz o u)->b=a)->(∀b o u,H b=some (.frz o u)->K.lookup b=none) ->
   codeAny (model P w) callerA (.call (.ref fa) ⟨[.ref a],[]⟩) (λr s'=>r=.ok (.ret (.bool true))/\OldK M.heap s'.heap/\s'.os=M.os/\AllBare s'.gens) M:=by
  intro H j Z hS hok J hB hK;have noA:∀ {b:Addr}{o:Obj},M.heap.get? b=some o->(o.cls≠.none)->(o.cls≠.type "list")->H b=none:=λ{b o} e d d'=>by
   rcases j b with q|⟨ob,xs,q⟩|⟨u,q⟩
   .exact q
   .grind
   simp_all<;>lia
  have C:∀ {b:Addr}{o:Obj}{es:Array DictEntry}{l:Nat},M.heap.get? b=some o->o.data=.dict es l->H b=none:=λ{b o es l} e d=>by
   rcases j b with q|⟨ob,xs,q⟩|⟨u,q⟩
   .exact q
   .grind
   grind
  have p:∀ {b:Addr}{m:SV},M.heap.Ns b m->(yR M.heap H).Ns b m:=λ{b m} ⟨o,es,l,e,d,r⟩=>⟨o,es,l,rN e (C e d),d,r⟩;have f:K.In (yR M.heap H):=λb o e=>rN (y b o e) (by
   rcases j b with q|⟨ob,xs,q⟩|⟨u,q⟩
   .exact q
   .rw[hK b _ _ q]at e;cases e
   .have z:=(J b u q).1;rw[y b o e]at z;cases z
    have:=all_eq_true.mp t _ (PySem.W.mem_of_lookupK e);simp at this)
  have hM:Mod K mg (yR M.heap H):=⟨f,p D,⟨mb,p hb,A⟩,let ⟨mc,h1,h2⟩:=B;⟨mc,p h1,h2⟩,by
   grind[rN]⟩
  have e0:Env0 P w K mg (yR M.heap H) callerA [] M H:=⟨rr,hM,λb o e=>by
   have a:=PySem.W.of_hideAll _ e;refine⟨a,?_⟩;cases q:H b with
   |none=>rfl
   |some x=>
    simp_all[trk,vX,yR,PySem.W.hideAll_none],le_of_eq (PySem.W.hideAll_size _ _),trivial,λb hb=>absurd (show b∈([]:List Addr)from hb) H9,hok,.of_eq R⟩;refine codeAny_mono ((F _ f (p D)).run callerA [] M H ⟨[.ref a],[]⟩ [.ref a] [.ref a] _ _ S e0 (T M (.ref a)) (.cons rr .nil) (X H Z hS)) λr s' h=>?_;cases r with
  |error e=>exact False.elim h
  |ok fl=>
   cases fl with
   |next=>exact False.elim h
   |brk=>exact False.elim h
   |cont=>exact False.elim h
   |ret u=>
    obtain⟨v,H',os,bare,un,L,r',q⟩:=h;have g:v=.bl true:=q;subst g;obtain rfl:u=Value.bool true:=r';have kp:=λb o n e=>un.keep b o e n (by intro z;exact absurd (show b∈([]:List Addr)from z) H9) H9;refine⟨rr,⟨λb o e=>?_,λb o e=>un.there b o e H9⟩,os,bare⟩;rcases j b with z|⟨ob,xs,z⟩|⟨u,z⟩
    .exact .inl (kp b o z e)
    .have z2:=un.frzs b ob _ z;obtain⟨i,_⟩:=hok b _ z;obtain⟨e2,_⟩:=L b _ z2;rw[e]at i;cases i;exact .inl e2
    .obtain⟨i,e2⟩:=J b u z;rw[e]at i;cases i;obtain⟨ps,e3,_⟩:=L b _ (un.tbls b u z);exact .inr (.inl ⟨e2,rr,#[],ps,rr,by simpa using e3⟩)
 have Us:∀q,O.lookup a≠some q:=λq z=>by
  simp_all
 have ta:O.lookup a=none:=by
  cases z:O.lookup a with
  |none=>rfl
  |some q=>exact absurd z (Us q)
 have adl:∀(G:Hp) b q,O.lookup b=some q->bA P w (sj O G) M.heap b (.tbl q):=λG b q z=>⟨#[],(N b q z).1,trivial,λpos cv c=>by cases c⟩;cases hk:K.lookup a with
 |some o=>
  have e:=y a o hk;rw[ha]at e;cases e
  refine I (sj O λ_=>none) (λb=>?_) (λb q z=>gF z) (.inr ⟨_,vs.toArray,_,hk,rr,rr,rr,by simp_all,by simpa using E⟩) (λb u z=>?_) (λb q z=>?_) (λb o u z=>?_) λb o u z=>?_
  all_goals cases U:O.lookup b with
   |none=>first|exact .inl (jo U)|(rw[jo U]at z;cases z)
   |some g=>first|exact .inr (.inr ⟨g,gF U⟩)|(rw[gF U]at z;cases z;done)|(rw[gF U]at z;grind)
 |none=>
  refine I (sj O λb=>if b=a then some _ else none) (λb=>?_) (λb q z=>gF z) (.inl (.inr ⟨{ cls:=.type "list",data:=.seq vs.toArray },by rw[jo ta,if_pos rr]⟩)) (λb u z=>?_) (λb q z=>?_) (λb o u z=>?_) λb o u z=>?_
  all_goals cases U:O.lookup b with
   |some g=>first|exact .inr (.inr ⟨g,gF U⟩)|(rw[gF U]at z;cases z;done)|(rw[gF U]at z;grind)
   |none=>
    first
    |rw[jo U]at z
    |rw[jo U]
    by_cases hb:b=a
    .first
     |rw[if_pos hb]at z
     |rw[if_pos hb]
     first
     |exact .inr (.inl ⟨_,_,rr⟩)
     | (cases z;subst hb;exact⟨ha,by rw[vI];exact hl,vs,_,E,ha⟩)
     |exact hb
     | (rw[hb];exact hk)
     |cases z
    .simp_all
noncomputable def xP (L:List (Str×Option (Addr×Addr))):List (Addr×Str):=L.filterMap λp=>p.2.map λq=>(q.2,uH p.1)
structure rM (K:Frag)(L:List (Str×Option (Addr×Addr))):Prop where
 names:L=kE.map λx=>(x,PySem.W.tabIn K x)
 apart:((xP L).map (·.1)).Nodup
 none:PySem.W.noTabs K=true
theorem mw {k M:Type}[BEq k][LawfulBEq k]:∀ {l:List (k×M)}{a:k}{b:M},(l.map (·.1)).Nodup->(a,b)∈l->l.lookup a=some b
 | (c,d)::l,a,b,o,h=>by
  rw[lookup_cons];rcases vP h with e|h
  .cases e;simp
  .rw[show(a == c)=false by simpa using λz=>(nodup_cons.mp o).1 (by simp_all)];exact mw (nodup_cons.mp o).2 h
theorem kK {k M:Type}[BEq k][LawfulBEq k]:∀ {l:List (k×M)}{a:k}{b:M},l.lookup a=some b->(a,b)∈l
 | (c,d)::l,a,b,h=>by
  rw[lookup_cons]at h;cases e:a == c with
  |true=>simp_all
  |false=>rw[e]at h;exact mZ _ (kK h)
def rM.tb {K:Frag}{L:List (Str×Option (Addr×Addr))}(F:rM K L){H:Hp}(h:∀b q,(xP L).lookup b=some q->H b=some (.tbl q)):Tb K H:=λx hx c P e=>by
 refine h P _ (mw F.apart ?_);rw[F.names];exact mem_filterMap.mpr ⟨(x,PySem.W.tabIn K x),uS ⟨x,hx,rr⟩,by rw[e];rfl⟩
def tab_no {K:Frag}{x:Str}(e:nsIn K mainGlobals x=some none):PySem.W.tabIn K x=none:=by unfold PySem.W.tabIn;rw[e]
def tab_yes {K:Frag}{x:Str}{f c P:Addr}{q O:Value}{r U:Option Addr}{w M:Array (Option Value)}{k:FuncData}{o:AV}(a:nsIn K mainGlobals x=some (some (.ref f)))(z:K.lookup f=some ⟨q,r,.func k,w⟩)(b:k.code=.ref c)
  (d:K.lookup c=some ⟨O,U,.fields o,M⟩) (e:o[11]? = some (.ref P)):PySem.W.tabIn K x=some (c,P):=by simp_all[PySem.W.tabIn]
def tabs_fit {K:Frag}{M O U a b:Option (Addr×Addr)}(c:PySem.W.tabIn K "in_order" = M)(k:PySem.W.tabIn K "has_seal" = O)(o:PySem.W.tabIn K "is_first_death" = U)(q:PySem.W.tabIn K "bases_by" = a)(r:PySem.W.tabIn K "as_heard" = b)
  (w:((xP [("in_order",M),("has_seal",O),("is_first_death",U),("bases_by",a),("as_heard",b)]).map (·.1)).Nodup) (z:PySem.W.noTabs K=true):rM K [("in_order",M),("has_seal",O),("is_first_death",U),("bases_by",a),("as_heard",b)]:=
 ⟨by subst c k o q r;rfl,w,z⟩
def Dy.law {P:Program}{w:World}{K:Frag}{D:SV}{x y:Str}{q:Stmt}{N:LS}{k:Nat}{g:FS}{h:Heap}{m:Addr}(F:Dy K x q)(X:K.In h)(G:h.Ns mainGlobals D)(M:D x=some (.ref m))(S:FnScope N [y] (aM q))
  (O:∀(kV R Z:Value)(j:Option Addr)(V l:Value)(u:Value),bindArgs (fnOf x x (gR q) (cr q) (aM q) .none kV R Z j V l) ⟨[u],[]⟩=pure [(y,u)])
  (n:∀(o:Heap),K.In o->o.Ns mainGlobals D->∀(f:Addr)(V:Value)(A:Around)(r:List PySem.Env)(s:Shared)(H:Hp)(E:XK),eQ k (A.deeper (envOfC x (aM q) s.z f V))->ze (rQ Bw P w K D o N x (aM q) f V A r s H E).nox (cr q) g):
  ∃W:FuncData,(∀(s:Shared)(u:Value),BindsTo s W ⟨[u],[]⟩ [(y,u)])/\∀o:Heap,K.In o->o.Ns mainGlobals D->u7 P w K D o Bw (k+1) m W [y] (M9 K (a0 g 1 (N.length - 1))):=by
 obtain⟨f,W,U,a⟩:=F;have e:=M.symm.trans (mg_of X G a);cases e
 refine⟨W,λs u=>?_,λo b c=>aaD U S (n _ b c _)⟩;refine cX λY g'=>?_;obtain⟨p,t,kV,R,Z,j,V,l,v,rfl,d,i⟩:=U.ex;apply g';exact .of_eq (O kV _ Z j _ l u)
section
variable {X:Cx}{a b e:Expr}{pos:Pos}{x:Str}{p:Pos}
@[simp] noncomputable def Ws:D->D->OB
 |.lst c,.lst k=>if c.length+k.length<=sizeLine then some (.lst (c++k),true)else none
 |_,_=>none
set_option tactic.hygienic true in
def Sy:dj X (binaryOp .Add) (rD X.K Ws):=by
 intro ag s σ H x y v u Q I n r q;refine e5 q λB dx J d bb c t w U q=>?_;cases t<;>try (cases U;done)
 all_goals (cases w<;>try (cases U;done))
 rename_i l Y ds h W z ws es h' O;simp only[Ws]at U;split at U
 .rename_i T;cases U
  cases n
  cases r
  refine I.lisE (c.seq h) λV f A L=>?_;refine I.lisE (c.seq h') λM g p2 N=>?_;refine cX λ_ g'=>?_;obtain⟨⟨P,d1,R,s1⟩,i,C,n1,D⟩:=A.isList;obtain⟨⟨c2,E,S,s2⟩,j,e2,n2,k2⟩:=p2.isList;apply g';subst C;subst D;subst e2;subst k2;have G:V.toArray++M.toArray=(V++M).toArray:=H9
  refine concat_meets ⟨_,i,rr⟩ ⟨_,j,rr⟩ noFill_list_add seq_list_add PySem.F.slot_list_add PySem.F.entry_list_add (PySem.F.args_list_add_2 _ _) (list_addW l z V.toArray M.toArray n1 n2 d1 E s1 s2 (by
   rw[vH,vH,<-f.length,<-g.length,W.length,O.length];exact T)) ⟨i,j,?_⟩;rw[G];have k:=Ext.laid (o:=.lst (Y++ws)) c I.fresh;have m:=(W.append O).mono k.bn;exact⟨.ref _,_,I.lnew (f.append g) (by rw[uZ,W.length,O.length];exact T),rr,q _ _ _ k (.lst (fW.of av) m) λ_=>⟨_,_,_,rr,rr,I.fresh,av,m⟩⟩
 simp_all
@[simp] noncomputable def BP:D->D->OB
 |.tup c,.tup k=>if c.length+k.length<=sizeLine/\c.isEmpty=false then some (.tup (c++k),false)else none
 |_,_=>none
set_option tactic.hygienic true in
def Jp:dj X (binaryOp .Add) (rD X.K BP):=by
 refine jd (by
  intro V s W H x y v u Q I c d h;obtain⟨a,b,r,D,rfl,rfl,F,P,hx,k,f,R⟩:=h;cases c
  cases d
  refine I.tupE F λS O g _=>I.tupE P λU M p2 _=>?_;refine HT.Nb g p2 (λz=>hx (O.nil_iff.mp z)) (λz=>⟨.ref a,H,I,rr,f (M.nil_iff.mp z)⟩) (λz=>?_) (by rw[<-O.length,<-M.length];exact k);refine⟨.ref s.z,_,I.laid   (λb Z q=>vZ _ q) (vT _) ?_,rr,R (λw=>z (M.nil_iff.mpr w)) _ (I.hok.fresh (vT _))⟩;exact⟨by rw[uZ];exact k,_,O.append M,IsTup.new _ _⟩:dj X (binaryOp .Add) (V9 X.K)) λx y H Q q=>?_;refine e5 q λB P j d R U f g O q=>?_;cases f<;>try (cases O)
 all_goals (cases g<;>try (cases O))
 rename_i l r S h k i w V D M;simp only[BP]at O;split at O
 .cases O
  have W:=k.length;have Z:=M.length;refine⟨l,i,r,w,rr,rr,bf U h,bf U D,λz=>?_,N9,λz=>?_,λ_ pp F=>?_⟩
  .grind
  .subst z;cases M
   rw[uQ]at q;exact q.one U (.tup h k)
  .have c:=Ext.laid (o:=.tup (r++w)) U F;exact q _ _ _ c (.tup (iH.of av) ((k.append M).mono c.bn)) H9
 simp_all
@[simp] noncomputable def aaJ:D->D->OB
 |.bl i,.int j=>some (.int ((if i=true then 1 else 0)+j),false)
 |.int i,.bl j=>some (.int (i+b2i j),false)
 |_,_=>none
noncomputable def jD:D->D->OB
 |.int i,.int j=>some (.int (i+j),false)
 |.str i,.str j=>if i.length+j.length<=sizeLine then some (.str (i++j),false)else none
 |.lst c,.lst k=>if c.length+k.length<=sizeLine then some (.lst (c++k),true)else none
 |.tup c,.tup k=>if c.length+k.length<=sizeLine/\c.isEmpty=false then some (.tup (c++k),false)else none
 |.bl i,.int j=>some (.int ((if i=true then 1 else 0)+j),false)
 |.int i,.bl j=>some (.int (i+b2i j),false)
 |_,_=>none
@[simp] def zz0 (i j:Int):jD (.int i) (.int j)=some (.int (i+j),false):=rfl
@[simp] def zz1 (i j:Str):jD (.str i) (.str j)=if i.length+j.length<=sizeLine then some (.str (i++j),false)else none:=rfl
@[simp] def zz2 (i j:LD):jD (.lst i) (.lst j)=if i.length+j.length<=sizeLine then some (.lst (i++j),true)else none:=rfl
@[simp] def zz3 (i j:LD):jD (.tup i) (.tup j)=if i.length+j.length<=sizeLine/\i.isEmpty=false then some (.tup (i++j),false)else none:=rfl
@[simp] def zz4 (i:Bool)(j:Int):jD (.bl i) (.int j)=some (.int ((if i=true then 1 else 0)+j),false):=rfl
@[simp] def zz5 (i:Int)(j:Bool):jD (.int i) (.bl j)=some (.int (i+b2i j),false):=rfl
def S1:dj X (binaryOp .Add) (rD X.K jD):=by
 refine jd (p9 (by
  refine jd (p9 VU Sn) λx y H Q q=>e5 q λB k M d b O U c e q=>?_;refine⟨B,k,M,d,b,O,U,c,?_,q⟩;cases k<;>try (cases e)
  all_goals (cases M<;>try (done))
  all_goals simp_all[UC]:dj X (binaryOp .Add) (rD X.K Wg)) (p9 Sy (p9 Jp (by
  intro o s k H x y v u Q I O U q;refine e5 q λB r h d w c f g M q=>?_;cases f<;>try (cases M)
  all_goals (cases g<;>try (cases M;done))
  .cases M
   cases O
   obtain⟨t,rfl⟩:=U;exact IntBool.add_bool_int ⟨.int _,H,I.tok _,⟨_,rr⟩,q.one c (.int _)⟩
  .cases M
   exact Gc _ s k H _ _ v u Q I O U ⟨_,_,rr,rr,q.one c (.int _)⟩:dj X (binaryOp .Add) (rD X.K aaJ))))) λx y H Q q=>e5 q λB k M d o O U c f q=>?_;refine⟨B,k,M,d,o,O,U,c,?_,q⟩;cases k<;>try (cases f)
 all_goals (cases M<;>try (cases f;done))
 all_goals simp_all[UC]
@[simp] noncomputable def blD:D->Option Bool
 |.bl b=>some b
 |_=>none
def xQ:LD->Option (List Bool)
 |[]=>some []
 |d::c=>(blD d).bind λb=>(xQ c).map (b :: ·)
@[simp] def Wt:xQ []=some []:=rfl
@[simp] def UD (d:D)(c:LD):xQ (d::c)=(blD d).bind λb=>(xQ c).map (b :: ·):=rfl
theorem xR {K:Frag}{B:Hp}{o:LV}{q:LD}{k:List Bool}{c:LU}(h:L2.bd o c)(j:IsL K B o q)(e:xQ q=some k):c=k.map Value.bool:=by
 induction h generalizing q k with
 |nil=>cases j;cases e;rfl
 |cons r _ n=>cases j with|cons i U=>
  refine eX e λb M e=>eS e λk w e=>?_;subst e;cases i<;>simp at M<;>try (done)
  cases M
  cases r
  rw[n U w];rfl
@[simp] def Wu:LD->OB
 |[.lst c]=>(xQ c).map λk=>(.bl (k.all id),false)
 |_=>none
@[simp] def S2:LD->OB
 |[.lst c]=>(xQ c).map λk=>(.bl (k.any id),false)
 |_=>none
set_option tactic.hygienic true in
def Wv (V:X.calm=true):bH X (.builtin "all") (yM X.K Wu):=by
 intro N s T H Y us Q I m q;refine e6 q λB ds d bb k i M q=>?_;cases i with
 |nil=>cases M
 |cons S i=>
  cases i with
  |cons _ _=>cases S<;>cases M
  |nil=>
   cases S<;>try (cases M;done)
   rename_i l vs es h W;refine eS M λP n M=>?_;cases M
   obtain⟨C,rfl,r⟩:=gA m;cases r
   refine I.lisE (k.seq h) λR t f D=>?_;have Z:=xR t W n;refine call_all_walk (wpAny_pyIter_list f.isList ⟨_,_,_,_,_,_,λj=>(P[j]?).getD true,rr,Walks.list (A:=X.A.in1) (I.ok.hd V) _ l (vS (by obtain⟨_,O,_⟩:=f.isList;exact vX O)) _,⟨⟨_,vY _ rr,rr,rr⟩,f.isList.push _⟩,λj v s' E F w g=>?_,λh' tk G=>?_⟩)
   .have U:=by simpa using w
    rw[Z,vA]at U;refine eS U λc y J=>?_;subst J;dsimp only at g;rw[y]at g;exact wpAny_truthy_bool g
   .have z:((List.range R.toArray.size).all λj=>(P[j]?).getD true)=P.all id:=by
     simp_all[LSm.range_all]
    rw[z];refine⟨.bl _,H,I.kept λc o O=>?_,rr,q.one k (.bl _)⟩;exact G c o (λL=>by rw[uT L]at O;exact Nat.lt_irrefl _ (vX O)) (vZ _ O)
set_option tactic.hygienic true in
def Ww (V:X.calm=true):bH X (.builtin "any") (yM X.K S2):=by
 intro N s T H Y us Q I m q;refine e6 q λB ds d bb k i M q=>?_;cases i with
 |nil=>cases M
 |cons S i=>
  cases i with
  |cons _ _=>cases S<;>cases M
  |nil=>
   cases S<;>try (cases M;done)
   rename_i l vs es h W;refine eS M λP n M=>?_;cases M
   obtain⟨C,rfl,r⟩:=gA m;cases r
   refine I.lisE (k.seq h) λR t f D=>?_;have Z:=xR t W n;have u:l<s.z:=by obtain⟨_,O,_⟩:=f.isList;exact vX O
   refine call_any_walk (wpAny_pyIter_list f.isList ⟨_,_,_,_,_,_,λj=>(P[j]?).getD false,rr,Walks.list (A:=X.A.in1) (I.ok.hd V) _ l (vS u) _,⟨⟨_,vY _ rr,rr,rr⟩,f.isList.push _⟩,λj v s' E F w g=>?_,λh' tk G=>?_⟩)
   .have U:=by simpa using w
    rw[Z,vA]at U;refine eS U λc y J=>?_;subst J;dsimp only at g;rw[y]at g;exact wpAny_truthy_bool g
   .have z:((List.range R.toArray.size).any λj=>(P[j]?).getD false)=P.any id:=by
     simp_all[LSm.range_any]
    rw[z];refine⟨.bl _,H,I.kept λc o O=>?_,rr,q.one k (.bl _)⟩;exact G c o (λL=>by rw[uT L]at O;exact Nat.lt_irrefl _ (vX O)) (vZ _ O)
def Wx:bootBuiltins "any" = some (.builtin "any"):=s9
end
noncomputable def ZC (z:Str):It:=⟨λi y=>i<z.cps.size,λi H v a=>a=H/\∃c,z.cps[i]? = some c/\v=.str ⟨#[c]⟩,λi y=>z.cps.size<=i⟩
def zt {P:Program}{w:World}{K:Frag}{u:Expr}(z:Str)(t:Tok)(F:Addr):Turn P w K u (ZC z) [F] F (λi h=>h.IsStrIter F "str_ascii_iterator" z t i) where
 mem:=mem_singleton.mpr rr
 obj:=λi h q b D=>by
  have j:=uT D;obtain⟨o,O,Y,V⟩:=q;simp_all
 keep:=λi h W q k=>let ⟨o,O,r⟩:=q;⟨o,k F (mem_singleton.mpr rr) o O,r⟩
 item:=by
  intro X l v m Z i x s y H E I R q U;have a:i<z.cps.size:=U;obtain⟨d,f1,f2,e,f,g⟩:=R F (mem_singleton.mpr rr);refine wpAny_pyNext_ascii_item q (c:=z.cps[i]) (by simp ) λW M n=>?_;obtain⟨o,O,p,V⟩:=id M;exact⟨_,rr,qj O p V q9 ⟨.str _,H,I.turned (λb o D S=>(n.2 b D).trans S) d f1 e f g,⟨_,rr⟩,⟨rr,_,by simp ,rr⟩,M,λb D=>(R b D).1⟩⟩
 done:=by
  intro X l v m Z i x s y H E I R q U;have a:z.cps.size<=i:=U;obtain⟨d,f1,f2,e,f,g⟩:=R F (mem_singleton.mpr rr);exact wpAny_pyNext_ascii_end (I.ok.hd Z) q N8 λW j=>⟨rr,I.turned (λb o D S=>j b o D S) d f1 e f g⟩
 self:=λY Y Y Y Y q h=>wpAny_pyIter_striter_ascii q h
def zu {P:Program}{w:World}{K:Frag}{u:Expr}(z:Str)(t:Tok)(F:Addr):Turn P w K u (ZC z) [F] F (λi h=>h.IsStrIter F "str_iterator" z t i) where
 mem:=mem_singleton.mpr rr
 obj:=λi h q b D=>by
  have j:=uT D;obtain⟨o,O,Y,V⟩:=q;simp_all
 keep:=λi h W q k=>let ⟨o,O,r⟩:=q;⟨o,k F (mem_singleton.mpr rr) o O,r⟩
 item:=by
  intro X l v m Z i x s y H E I R q U;have a:i<z.cps.size:=U;obtain⟨d,f1,f2,e,f,g⟩:=R F (mem_singleton.mpr rr);refine wpAny_pyNext_wide_item q (c:=z.cps[i]) (by simp ) λW M n=>?_;obtain⟨o,O,p,V⟩:=id M;exact⟨_,rr,qj O p V q9 ⟨.str _,H,I.turned (λb o D S=>(n.2 b D).trans S) d f1 e f g,⟨_,rr⟩,⟨rr,_,by simp ,rr⟩,M,λb D=>(R b D).1⟩⟩
 done:=by
  intro X l v m Z i x s y H E I R q U;have a:z.cps.size<=i:=U;obtain⟨d,f1,f2,e,f,g⟩:=R F (mem_singleton.mpr rr);exact wpAny_pyNext_wide_end (I.ok.hd Z) q N8 λW j=>⟨rr,I.turned (λb o D S=>j b o D S) d f1 e f g⟩
 self:=λY Y Y Y Y q h=>wpAny_pyIter_striter_wide q h
section
variable {X:Cx}{a b e:Expr}{pos:Pos}{x:Str}{p:Pos}{tg:Expr}
def Jq(K:PE X l w):PI X tg l (λk H R=>w k H λx M=>∃z,x=.str z/\R (ZC z) M):=by
 intro S s k H R I h;refine bY (K _ s k H _ I h) λv r ⟨x,M,O,U,c⟩=>?_;obtain⟨z,rfl,q⟩:=c;obtain⟨t,rfl⟩:=U;have D:∀b∈[r.z],mm X _ M b:=λb P=>by
  rw[uT P];exact O.fpOk (vT _) (O.hok.fresh (vT _))
 cases F:z.cps.all _ with
 |true=>exact wpAny_pyIter_ascii F ⟨_,[r.z],_,_,M,rr,O.kept λb o e=>vZ _ e,zt z t _,⟨_,vY _ rr,rr,rr⟩,D,q⟩
 |false=>exact wpAny_pyIter_wide F ⟨_,[r.z],_,_,M,rr,O.kept λb o e=>vZ _ e,zu z t _,⟨_,vY _ rr,rr,rr⟩,D,q⟩
noncomputable def zv (z:Str):LD:=z.cps.toList.map λc=>.str ⟨#[c]⟩
def Jr {K:Frag}z:mD K (ZC z) B (zv z):=by
 intro i H s;refine⟨λd k=>?_,λo=>by unfold zv at o;show z.cps.size<=i;simp_all⟩;unfold zv at k;rw[vA]at k;obtain⟨c,U,rfl⟩:=oY k;have M:=by simpa using U
 refine⟨(Array.getElem?_eq_some_iff.mp M).1,λv r q=>?_⟩;obtain⟨rfl,f,O,rfl⟩:=q;rw[M]at O;cases O;exact⟨B,.refl s,.str _⟩
@[simp] def S3:D->Option LD
 |.lst c=>some c
 |.tup c=>some c
 |.str z=>some (zv z)
 |_=>none
@[simp] def cY (f:FE):FA:=λc=>(f c).bind λx=>S3 x.1
def S4 (h:JE X e f):JI X tg e (cY f):=by
 intro V s o H R I q;refine cX λy g'=>?_;obtain⟨B,w,F,M,r,O,q⟩:=q;apply g';refine eX O λU D k=>?_;obtain⟨K,g⟩:=U;cases K with
 |lst l=>exact Dx h _ s o H R I ⟨B,w,F,M,r,by unfold Jm;rw[D];exact k,q⟩
 |tup l=>exact Dx h _ s o H R I ⟨B,w,F,M,r,by unfold Jm;rw[D];exact k,q⟩
 |str z=>
  cases k
  refine Jq h _ s o H R I ⟨B,w,_,_,M,r,D,λv c P d S y=>?_⟩;cases S
  exact⟨z,rr,q _ c P d (Jr z)⟩
 |_=>cases k
def NQ:HW X (λx o r H Q=>∃z,x=.str z/\z.length<=sizeLine/\Q (.str (Txt.slice z o r)) H):=by
 intro R s S H x v Z c o r d Q I U w V O h;obtain⟨z,rfl,W,q⟩:=h;obtain⟨t,rfl⟩:=U;have D:∀o r,Q (.str (Txt.slice z o r)) H->(Txt.slice z o r).length<=sizeLine/\∀K k,EP X R S Q _ _:=λo r q=>
  ⟨vR (Txt.slice_le z _ _) W,λK k=>⟨.str _,H,I.tok k,⟨K,rr⟩,q⟩⟩
 refine⟨"str",_,PySem.F.slot_str_getitem.lookup,typeIs_str _ _ _,?_⟩;cases V with
 |none=>
  cases O with
  |none=>exact wpAny_getItem_str_slice (l:=none) (u:=none) (st:=none) w rr (post_val_or_str (D _ _ q))
  |int j M=>exact wpAny_getItem_str_slice (l:=none) (u:=some (j,M)) (st:=none) w rr (post_val_or_str (D _ _ q))
 |int i P=>
  cases O with
  |none=>exact wpAny_getItem_str_slice (l:=some (i,P)) (u:=none) (st:=none) w rr (post_val_or_str (D _ _ q))
  |int j M=>exact wpAny_getItem_str_slice (l:=some (i,P)) (u:=some (j,M)) (st:=none) w rr (post_val_or_str (D _ _ q))
def Gz {A:Around}{E:QV}{s:Shared}{q:Program}{w:World}{t z:Addr}{k:AV}{D d:Value}{o r:OI}{Q:QV}(M:IsTup s.heap t k)(F:s.heap.IsSliceOf z D d .none)(K:IsPart D o)(f:IsPart d r)
  (P:HT.dP k.size 0 o=0) (R:HT.dP k.size k.size r=k.size) (h:Q (.ref t) s):wpAny (model q w) A (getItem (.ref t) (.ref z)) Q E s:=by
 obtain⟨os,O,U,g⟩:=id F
 have i:s.TypeIs (.ref z) _:=⟨os,O,U⟩
 unfold getItem
 try with_reducible refine wpAny_holding ?_
 refine wX (wpAny_sequenceKey M.typeIs q9 ?_)
 refine wX (wpAny_callSpecial?_slot M.typeIs PyProof.Rows.slot_tuple_getitem (wpAny_call_entry PyProof.Rows.slot_tuple_getitem M.typeIs entry_tuple_getitem ?_ (args_tuple_getitem _ _)))
 show wpAny _ _ (Builtin.Tuple.tupleItemsOf _>>=_) _ _ s
 refine wX (tupleItemsOf_ M ?_)
 refine wX (wpAny_typeOf i ?_)
 refine wX (HT.jn F K f ?_)
 show wpAny _ _ (if(((HT.dP _ 0 o:Nat):Int) == 0 && (1:Int) == 1 && (HT.dP _ _ r - HT.dP _ 0 o) == k.size)=true then _ else _) _ _ s
 rw[if_pos (by
  rw[P,R];simp)]
 refine wX ?_
 refine wX (wpAny_typeOf M.typeIs (wY ?_))
 refine wX (wpAny_rule ?_)
 exact wY ⟨_,rr,wY h⟩
@[simp] def Dz (o:FE)(q M:FO):FE:=λc=>(o c).bind λx=>(q c).bind λl=>(M c).bind λh=>match x.1 with
 |.lst k=>some (.lst (mE k l h),true)
 |.tup k=>some (.tup (mE k l h),false)
 |.str z=>if z.length<=sizeLine then some (.str (Txt.slice z l h),false)else none
 |_=>none
def Js {Z t:Option Expr}{C:Pos}{u:FE}{y g:FO}(E:JE X e u)(G:JO X Z y)(I:JO X t g):JE X (.Subscript e (.Slice Z t none C) pos) (Dz u y g):=by
 refine PE.to (Iz (HW.or (HW.or (by
  intro V s W H x v Z d w D e Q I U F P c h;obtain⟨a,k,rfl,hx,q⟩:=h;cases U
  refine I.lisE hx λR r O S=>?_;have M:=r.length;refine⟨"list",_,slot_list_getitem.lookup,O.isList.typeIs,wpAny_getItem_list_slice O.isList F P c .none I9 ?_ (by rw[vH]<;>simp_all)⟩
  rw[uF,<-M];refine⟨.ref s.z,_,I.laid   (λb f q=>vZ _ q) (vT _) ?_,rr,q _ (I.hok.fresh (vT _))⟩;exact⟨vR (qm k w D) S,_,0,(r.drop _).take _,vY _ rr⟩:HW X (aat X.K)) (by
  intro S s V H x v W d lo hi Z Q I U F P c h;obtain⟨a,k,rfl,hx,R,q⟩:=h;cases U
  refine I.tupE hx λw r O D=>?_;have M:w.toArray.size=k.length:=by exact r.length.symm
  refine⟨"tuple",_,PyProof.Rows.slot_tuple_getitem.lookup,O.typeIs,HT.nB O F P c (by rw[M];exact R) ?_ (by rw[M];exact D)⟩;rw[M];refine⟨.ref _,_,I.laid   (λb f=>vZ _) (vT _) ?_,rr,q _ (I.hok.fresh (vT _))⟩;exact⟨vR (qm k lo hi) D,_,(r.drop _).take _,IsTup.new _ _⟩:HW X (aap X.K))) (HW.or NQ (by
  intro S s V H x v W d w z Z Q I U D F c h;obtain⟨a,k,rfl,hx,P,R,q⟩:=h;cases U
  refine I.tupE hx λo r O f=>?_;have M:o.toArray.size=k.length:=r.length.symm
  exact⟨"tuple",_,PyProof.Rows.slot_tuple_getitem.lookup,O.typeIs,Gz O D F c (by rw[M];exact P) (by rw[M];exact R) ⟨.ref a,H,I,rr,q⟩⟩:HW X (λx w z H Q=>∃a k,x=.ref a/\iH X.K H a k/\HT.dP k.length 0 w=0/\HT.dP k.length k.length z=k.length/\Q (.ref a) H)))) E G I) λT H Q q=>?_;refine cX λ_ g'=>?_;obtain⟨B,S,d,b,i,r,e,q⟩:=q;apply g';refine eX e λx J e=>?_;refine eX e λl j e=>?_;refine eX e λh k e=>?_;refine⟨B,S,x.1,x.2,i,r,J,λv n V M L _=>⟨V,S,l,M.nh,r.mono M.bn,j,λY W=>⟨V,S,h,M.nh.trans W,r.mono M.bn,k,λm A=>?_⟩⟩⟩;have O:aS V m:=M.nh.trans (W.trans A);have c:=q.into (M.trans (.grow M.nh (W.trans A)));obtain⟨xd,s⟩:=x;cases L with
 |@tup f D F K w=>
  cases e
  by_cases P:HT.dP F.length 0 l=0/\HT.dP F.length F.length h=F.length
  .rw[(by
   unfold mE;rw[P.1,P.2];simp:mE F l h=F)]at c;exact .inr (.inr ⟨f,D,rr,bf O K,by rw[w.length];exact P.1,by rw[w.length];exact P.2,c.one O (.tup K w)⟩)
  .refine .inl (.inr ⟨f,D,rr,bf O K,by rw[w.length];exact P,λp R=>?_⟩);have U:=Ext.laid (o:=.tup (uE D l h)) O R;exact c _ _ _ U (.tup (iH.of av) ((xN w).mono U.bn)) H9
 |@lst f D F K w=>
  cases e
  refine .inl (.inl ⟨f,D,rr,O.seq K,λp R=>?_⟩);have U:=Ext.laid (o:=.lst (uE D l h)) O R;exact c _ _ _ U (.lst (fW.of av) ((xN w).mono U.bn)) λ_=>⟨p,_,_,rr,rr,R,av,(xN w).mono U.bn⟩
 |str z=>
  dsimp only at e;split at e
  .rename_i N;cases e
   exact .inr (.inl ⟨z,rr,N,c.one O (.str _)⟩)
  lia
 |_=>cases e
def const_int {K:Frag}{y:Str}{i:Int}{t:Tok}(e:nsIn K mainGlobals y=some (some (.int i t))):∃u v,nsIn K mainGlobals y=some (some u)/\aI v u/\∀B,Is K B v (.int i):=⟨_,.int i,e,⟨t,rr⟩,λz=>.int i⟩
noncomputable def xS:Value->D->Bool
 |.none,.non=>true
 |.bool a,.bl b=>a == b
 |.int i _,.int j=>decide (i=j)
 |.str i _,.str j=>decide (i=j)
 |_,_=>false
def jF:LU->LD->Bool
 |[],[]=>true
 |u::c,d::k=>xS u d && jF c k
 |_,_=>false
theorem lE {K:Frag}{B:Hp}:∀ {u:Value}{d:D},xS u d=true->∃v,aI v u/\Is K B v d
 |.none,.non,_=>⟨.non,rr,.non⟩
 |.bool a,.bl b,h=>by
  have:=eq_of_beq h;subst this;exact⟨.bl a,rr,.bl a⟩
 |.int i t,.int j,h=>by
  have:=HN h;subst this;exact⟨.int i,⟨t,rr⟩,.int i⟩
 |.str i t,.str j,h=>by
  have:=HN h;subst this;exact⟨.str i,⟨t,rr⟩,.str i⟩
theorem jG {K:Frag}:∀ {o:LU}{q:LD},jF o q=true->∃k,L2.bd k o/\∀B,IsL K B k q
 |[],[],_=>⟨[],.nil,λz=>.nil⟩
 |u::o,d::q,h=>by
  rw[jF,vC]at h;obtain⟨k,r,i⟩:=jG h.2;obtain⟨v,O,z⟩:=lE (K:=K) (B:=λz=>none) h.1;refine⟨v::k,.cons O r,λB=>?_⟩;obtain⟨U,M,c⟩:=lE h.1;have:U=v:=by have f:=O.abs;rw[M.abs]at f;simp_all
  subst this;exact .cons c (i B)
def const_tup {K:Frag}{y:Str}{a:Addr}{o:Option Addr}{c:AV}{n:Nat}{q:Array (Option Value)}{k:LD}(e:nsIn K mainGlobals y=some (some (.ref a)))
  (l:K.lookup a=some ⟨.type "tuple",o,.seq c n,q⟩) (h:(decide (c.size<=1000) && jF c.toList k)=true):∃u v,nsIn K mainGlobals y=some (some u)/\aI v u/\∀B,Is K B v (.tup k):=by
 rw[vC]at h;obtain⟨w,r,i⟩:=jG h.2;exact⟨_,.ref a,e,rr,λB=>.tup (.inr ⟨_,c,n,l,rr,rr,le_of_lt (lt_of_le_of_lt (HN h.1) I9),r⟩) (i B)⟩
end
section
variable {X:Cx}{a b o e:Expr}{pos:Pos}{x:Str}{p:Pos}{tg:Expr}
def S5 {w:Str}{id:String}{V R:Pos}{S:D->D->OB}{W Z:FE}(P:Slot "str" w id)(f:typeOf (.builtin id)=pure (.type "method_descriptor"))
  (J:VA X id (λx L H Q=>∃y,L=[y]/\rD X.K S x y H Q)) (j:∀A k r,S A k=some r->∃z,A=.str z) (l:JE X o W) (N:JE X e Z)
  (M:attributeBase o w X.env (eval o X.env)=eval o X.env)
  (m:qi R e X.env)
  (O:(V.endLine == R.line)=true) (C:d4 e X.env):
  JE X (.Call (.Attribute o w V) [e] [] R) (f2 S W Z):=by
 refine PE.to (yV PySem.F.plainAttrs_str P f J l (dI N gJ C) M m O C rr) λσ H Q q=>?_;refine cX λp g'=>?_;obtain⟨B,E,d,T,n,r,c,q⟩:=q;apply g';refine eX c λh Y c=>?_;refine eX c λg s c=>?_;obtain⟨z,G⟩:=j _ _ _ c;refine⟨B,E,h.1,h.2,n,r,Y,λv u N1 U I p=>?_⟩;rw[G]at I;cases I
 refine⟨show "str" = "str" from rr,N1,E,g.1,g.2,U.nh,r.mono U.bn,s,λt H2 N2 i i2 p=>⟨t,rr,N2,.str z,g.1,d,T,i.nh,.str z,i2,by rw[<-G];exact c,q.into (U.trans i)⟩⟩
@[simp] noncomputable def S6:D->Option Str
 |.str z=>some z
 |_=>none
def fU:LD->Option LS
 |[]=>some []
 |d::c=>(S6 d).bind λz=>(fU c).map (z :: ·)
@[simp] def UE:fU []=some []:=rfl
@[simp] def S7 (d:D)(c:LD):fU (d::c)=(S6 d).bind λz=>(fU c).map (z :: ·):=rfl
@[simp] def UF c:fU (c.map D.str)=some c:=by
 induction c with
 |nil=>rfl
 |cons z c M=>simp[M]
theorem jp {K:Frag}{B:Hp}{q:LV}{w:LD}{k:LS}{c:LU}(h:L2.bd q c)(j:IsL K B q w)(e:fU w=some k):StrsAre c k:=by
 induction h generalizing w k with
 |nil=>cases j;cases e;exact .nil
 |cons r _ n=>cases j with|cons i U=>
  refine eX e λz M e=>eS e λk D e=>?_;subst e;cases i<;>simp at M<;>try (done)
  cases M
  obtain⟨t,rfl⟩:=r;exact .cons _ t (n U D)
@[simp] def Jt:D->D->OB
 |.str M,.lst k=>(fU k).bind λc=>if(c.map (·.length)).sum+c.length*M.length<=16777216 then some (.str (Txt.join M c),false)else none
 |.str M,.tup k=>(fU k).bind λc=>if(c.map (·.length)).sum+c.length*M.length<=16777216 then some (.str (Txt.join M c),false)else none
 |_,_=>none
set_option tactic.hygienic true in
def S8:VA X "str.join" (λx P H Q=>∃y,P=[y]/\rD X.K Jt x y H Q):=by
 intro S s V H x P v W Q I i j h;obtain⟨y,rfl,B,Z,r,d,A,O,l,m,M,q⟩:=h;obtain⟨u,rfl,g⟩:=gA j;cases l<;>(try (simp at M))
 obtain⟨t,rfl⟩:=i;cases m<;>(try (simp at M;done))
 .rename_i h z;refine eX M λR U M=>?_;split at M
  .rename_i w;cases M
   cases g
   refine I.tupE (bf O h) λD c f n=>?_;exact join_tuple f (by simpa using jp c z U) w λF k=>⟨.str _,H,I.tok k,⟨F,rr⟩,q.one O (.str _)⟩
  simp_all
 .rename_i h z;refine eX M λR U M=>?_;split at M
  .rename_i w;cases M
   cases g
   refine I.lisE (O.seq h) λD c f n=>?_;exact join_list f.isList (by simpa using jp c z U) w λF k=>⟨.str _,H,I.tok k,⟨F,rr⟩,q.one O (.str _)⟩
  simp_all
def Ju (c M)r(h:Jt c M=some r):∃z,c=.str z:=by
 cases c<;>first|exact⟨_,rr⟩|(cases M<;>simp at h)
noncomputable def gO:LN->LD->Env->Option Env
 |[],[],c=>some c
 |i::is,d::k,c=>gO is k (c.set i (some (d,false)))
 |_,_,_=>none
@[simp] def UG c:gO [] [] c=some c:=by rw[gO]
@[simp] def BR i(is:LN)d(c:LD)k:gO (i::is) (d::c) k=gO is c (k.set i (some (d,false))):=by rw[gO]
@[simp] def Wy d(c:LD)k:gO [] (d::c) k=none:=by simp [gO]
@[simp] def Wz i(is:LN)c:gO (i::is) [] c=none:=by simp [gO]
@[simp] def HY (is:LN):FG:=λd c=>match d with|.tup k=>gO is k c|_=>none
def jH:LN->Qo
 |[]=>Vq
 |i::is=>Qp (jm i) (jH is)
def Jv:aS (dZ N (own f g)) (dZ N (own (f.set i (some v)) (g.set i (some (d,false))))):=eB λa u e q=>⟨e,λz=>q (by
 rcases xI z with⟨y,c,p⟩|⟨j,y,c,M,k⟩
 .cases p
 .exact⟨j,c,M,k⟩)⟩
theorem lF {K:Frag}:∀ {is:LN}{w:LV}{z:LD}{D F N H:Hp}{q:St}{r c:Env}{Q:St->Hp->Prop},dG K D F N H q r->IsL K (dZ N (own q r)) w z->gO is z r=some c->(∀M,dG K D F N H M c->Q M H)->jH is w q H Q
 |[],_,_,_,_,_,_,_,_,_,_,s,.nil,e,k=>by
  cases e
  exact⟨rr,k _ s⟩
 |[],_,_,_,_,_,_,_,_,_,_,_,.cons _ _,e,_=>by simp at e
 |_::_,_,_,_,_,_,_,_,_,_,_,_,.nil,e,_=>by simp at e
 |i::is,_,_,_,_,_,_,_,_,_,_,s,.cons h P,e,k=>⟨_,_,rr,lF (s.bind h) (P.mono Jv) e k⟩
theorem lG:∀ {is:LN}{k:LD}{q c:Env},gO is k q=some c->k.length=is.length
 |[],[],_,_,_=>rr
 |_::_,_::_,_,_,e=>by rw[BR]at e;simp[lG e]
 |[],_::_,_,_,e=>by simp at e
 |_::_,[],_,_,e=>by simp at e
def W1 {K:Frag}{is:LN}:M8 K (HY is) (Ij K is.length (jH is)):=by
 intro z D N H F P q v d Q s h e k;cases h with
 |@tup a r R O c=>
  exact⟨a,r,rr,bf (bN.trans s.ext.nh) O,by rw[c.length];exact lG e,lF s c e λU w=>k _ H ⟨N,w⟩⟩
 |_=>cases e
theorem wa {K:Frag}{n:Nat}{B H:Hp}{M:Env}{Q:St->Hp->Prop}(s:∀i,i<n->M[i]? = some none):∀ {is:LN}{P:LV}{R:LD}{r:St}{D U:Env},(∀i∈is,i<n)->fQ K B r D->IsL K B P R->gO is R D=some U->D.length=r.length->D.length=M.length ->
  (∀O,fQ K B O U->(∀c,fQ K c r M->fQ K c O M)->M.length=O.length->Q O H)->jH is P r H Q
 |[],_,_,_,_,_,_,F,.nil,e,S,V,k=>by
  cases e
  exact⟨rr,k _ F (λx z=>z) N9⟩
 |[],_,_,_,_,_,_,_,.cons _ _,e,_,_,_=>by simp at e
 |_::_,_,_,_,_,_,_,_,.nil,e,_,_,_=>by simp at e
 |i::is,_,_,r,D,_,W,F,.cons h t,e,S,V,k=>by
  have A:=W i mX;have m:i<r.length:=by
   grind
  refine⟨_,_,rr,wa s (λj u=>W j (mZ _ u)) ⟨F.tb,λj d b q=>?_⟩ t e (by simpa using S) (by simpa using V) λO f g l=>k _ f (λc z=>g c ⟨z.tb,λj d b q=>?_⟩) l⟩
  .rcases bZ q with⟨rfl,pp⟩|⟨v,pp⟩
   .simp_all
   .obtain⟨w,y,Z⟩:=F.at' j d b pp;simp_all
  .obtain⟨w,y,Z⟩:=z.at' j d b q;have v:i≠j:=λz=>by grind
   exact⟨w,by simp_all,Z⟩
def Jw {K:Frag}{n:Nat}{is:LN}(r:∀i∈is,i<n):N6 K n (HY is) (Ij K is.length (jH is)):=by
 intro B H F P O v d Q w c s h e z k;cases h with
 |@tup a D R U q=>
  exact⟨a,D,rr,bf s U,by rw[q.length];exact lG e,wa w r c q e z rr k⟩
 |_=>cases e
end
section
variable {prog:Program}{w:World}{A:Around}{E:QV}{s:Shared}
end
def k6:Bool->Heap->Addr->Addr->Nat->Prop
 |true,h,b,a,i=>h.IsListIter b a i
 |false,h,b,a,i=>h.IsTupleIter b a i
def lH (k:Bool)(K:Frag)(H:Hp)(a:Addr)(b:LV):Prop:=match k with|true=>fW K H a b|false=>iH K H a b
def k6.ob (b:k6 k h e a i):∃o,h.get? e=some o/\∀v,o.data≠.cell v:=by
 cases k<;>(obtain⟨o,g,z,d⟩:=b;simp_all)
def k6.upon (b:k6 k h d a i)(g:∀o,h.get? d=some o->f.get? d=some o):k6 k f d a i:=by
 cases k<;>(obtain⟨o,e,r⟩:=b;exact⟨o,g o e,r⟩)
def kH.upon (b:kH k h a d)(g:∀o,h.get? a=some o->f.get? a=some o):kH k f a d:=by
 cases k<;>(obtain⟨o,e,r⟩:=b;exact⟨o,g o e,r⟩)
def kH.lt (b:kH k h a d):a<h.objs.size:=by
 cases k<;>(obtain⟨o,e,r⟩:=b;exact vX e)
theorem lH.same{K:Frag}{H b:Hp}{a:Addr}{c:LV}(h:lH k K H a c)(e:aS H b):lH k K b a c:=by
 cases k
 .exact bf e h
 .exact e.seq h
def lH.vals (I:Inv X e f H s)(h:lH k X.K H a d):∃b:LU,bd d b/\kH k s.heap a b.toArray/\d.length<=sizeLine:=by
 cases k
 .exact I.tuple h
 .refine I.lisE h λb r p z=>?_;exact⟨b,r,p.isList,z⟩
def lH.inj (I:Inv X f g H s)(h:lH k X.K H a d)(b:lH k X.K H a e):d=e:=by
 cases k
 .exact I.tuple_inj h b
 .exact I.list_inj h b
section
variable {prog:Program}{w:World}{A:Around}{E:QV}{s:Shared}
def fZ (b:k6 k s.heap e l i)(M:kH k s.heap l d)(c:d[i]? = some v)
  (q:∀a,k6 k a e l (i+1)->Heap.SameBut e s.heap a->Q v { s with heap:=a }):wpAny (model prog w) A (Builtin.SmallTypes.nextOf (.ref e)) Q E s:=by
 cases k
 .obtain⟨g,f,O,o⟩:=id b;obtain⟨d,U,z,K,a⟩:=M;refine wX (wpAny_callSpecial?_slot b.typeIs slot_tuple_iterator_next (wpAny_call_entry slot_tuple_iterator_next b.typeIs PySem.F.entry_tuple_iterator_next ?_ (PySem.F.args_tuple_iterator_next_1 _)));show wpAny _ _ (field _ 0>>=_) _ _ _;refine wX (wpAny_field f o rr ?_);refine wX (wpAny_field f o rr ?_);refine wX (wpAny_seqItems U a ?_);simp [c,Int.toNat_natCast];refine wX (wpAny_setField f o C_ (wY ⟨v,rr,wY (q _ ?_ (vW ..))⟩));exact⟨_,Heap.get?_update_self _ f (Obj.isFreed_of_fields (Obj.data_mapFields o _)),(Obj.cls_mapFields ..).trans O,by rw[Obj.data_mapFields o];rfl⟩
 .exact wpAny_nextOf_list_item b M c q
def jq (M:A.handled=none)(b:k6 k s.heap e l i)(O:kH k s.heap l d)(c:d[i]? = none)
  (q:∀a x,Heap.ExtBut e s.heap a->(∃o,a.get? x=some o/\o.cls=.type "StopIteration")->E (.ref x) { s with heap:=a }):wpAny (model prog w) A (Builtin.SmallTypes.nextOf (.ref e)) Q E s:=by
 cases k
 .obtain⟨f,z,g,D⟩:=id b;obtain⟨d,U,y,P,a⟩:=O;refine wX (wpAny_callSpecial?_slot b.typeIs slot_tuple_iterator_next (wpAny_call_entry slot_tuple_iterator_next b.typeIs PySem.F.entry_tuple_iterator_next ?_ (PySem.F.args_tuple_iterator_next_1 _)));show wpAny _ _ (field _ 0>>=_) _ _ _;refine wX (wpAny_field z D rr ?_);refine wX (wpAny_field z D rr ?_);refine wX (wpAny_seqItems U a ?_);simp [c,Int.toNat_natCast];refine wX (wpAny_rule (wX (wpAny_setField z D C_ ?_)));refine wX ?_;refine wX (m:=firstArgMember _ _) (wpAny_of_eq q9 ?_);refine wpAny_newObj_type ?_ h8;refine wX (wpAny_handled ?_);first|rw[M]|rw[show A.in1.handled=none from M]
  exact wX (wY (wpAny_throw (q _ _ (((vW ..).extBut.push _).push _) ⟨_,vY _ rr,rr⟩)))
 .exact wpAny_nextOf_list_end M b O c q
end
noncomputable def NS (k:Bool)(l:Addr):Obj:={ cls:=.type (if k=true then "list_iterator" else "tuple_iterator"),data:=.fields #[.ref l,.int 0 0] }
def nO (M:kH k s.heap l d)
  (q:Q (.ref s.z) { s with heap:=s.heap.push (NS k l) }):wpAny (model e w) A (pyIter (.ref l)) Q E s:=by
 cases k
 .exact wpAny_pyIter_tuple M q
 .exact wpAny_pyIter_list M q
def kH.push (b:kH k h a d)o:kH k (h.push o) a d:=b.upon λz=>vZ _
section
variable (k1 k2:Bool) (h:Heap) (l1 l2:Addr)
abbrev zA:Heap:=h.push (NS k1 l1)
abbrev zB:Heap:=(zA k1 h l1).push (NS k2 l2)
abbrev zC:Heap:=(zB k1 k2 h l1 l2).push { cls:=.type "tuple",data:=.seq #[.ref h.objs.size,.ref (zA k1 h l1).objs.size] }
abbrev zD:Heap:=(zC k1 k2 h l1 l2).push { cls:=.type "tuple",data:=.seq #[.none,.none] }
abbrev zE:Heap:=(zD k1 k2 h l1 l2).push { cls:=.type "zip",data:=.fields #[.none,.bool false,.bool false,.ref (zB k1 k2 h l1 l2).objs.size,.ref (zC k1 k2 h l1 l2).objs.size] }
end
def BU (M k)b c z q:Meets (Builtin.«zip.__new__» ⟨[.type "zip",.ref b,.ref c],[]⟩) (λy R s=>kH M s.heap b z/\kH k s.heap c q /\
   R (.ok (.ret (.ref (zD M k s.heap b c).objs.size))) { s with heap:=zE M k s.heap b c }):=
 .of_wp λr w A R s o=>by
  obtain⟨U,K,o⟩:=o;have O:=sub_zip;wp_walk using nO U,nO (kH.push K _);exact⟨_,rr,o⟩
section
variable {prog:Program}{w:World}{A:Around}{E:QV}{s:Shared}
def NT (i:kH l s.heap m t)(R:kH n s.heap p u)
  (q:∀k,IsZip k (s.z+4) (s.z+2) (s.z+3) .none->IsPair k (s.z+2) (.ref s.z) (.ref (s.z+1))->IsPair k (s.z+3) .none .none ->
   k6 l k s.z m 0->k6 n k (s.z+1) p 0->(∀c o,s.heap.get? c=some o->k.get? c=some o)->Q (.ref (s.z+4)) { s with heap:=k }):
  wpAny (model prog w) A (call (.type "zip") [.ref m,.ref p]) Q E s:=by
 refine callType_new PySem.F.called_zip q9 (PySem.F.typeCall_zip_2 _ _) (PySem.F.newCall_zip_2 _ _) (λr=>PySem.F.args_object_init_3 r _ _) PySem.F.entry_zip_new (BU l n m p t u) ⟨i,R,?_⟩;have D:(zA l s.heap m).objs.size=s.z+1:=Heap.size_push ..;have K:(zB l n s.heap m p).objs.size=s.z+2:=by rw[Heap.size_push,D]
 have P:(zC l n s.heap m p).objs.size=s.z+3:=by rw[Heap.size_push,K]
 have O:(zD l n s.heap m p).objs.size=s.z+4:=by rw[Heap.size_push,P]
 have U:∀ {c o},(zD l n s.heap m p).get? c=some o->(zE l n s.heap m p).get? c=some o:=λe=>vZ _ e;have a:∀ {c o},(zC l n s.heap m p).get? c=some o->(zE l n s.heap m p).get? c=some o:=λe=>U (vZ _ e);have b:∀ {c o},(zB l n s.heap m p).get? c=some o->(zE l n s.heap m p).get? c=some o:=λe=>a (vZ _ e);have d:∀ {c o},(zA l s.heap m).get? c=some o->(zE l n s.heap m p).get? c=some o:=λe=>b (vZ _ e);have j:∀ {c o},s.heap.get? c=some o->(zE l n s.heap m p).get? c=some o:=λe=>d (vZ _ e);have M:(zE l n s.heap m p).get? _=some _:=vY _ rr;have f:=U (vY _ rr);have g:=a (vY _ rr);have h:=b (vY _ (by cases n<;>rfl))
 have S:=d (vY _ (by cases l<;>rfl))
 rw[K,P,O]at M;rw[D,K]at g;rw[P]at f;rw[D]at h;show _/\_;rw[O];refine⟨⟨_,M,rr⟩,q _ M g f ?_ ?_ λc o e=>j e⟩
 .cases l<;>exact⟨_,S,rr,rr⟩
 .cases n<;>exact⟨_,h,rr,rr⟩
structure ZApart (z TI TO i1 i2:Addr):Prop where
 tz:TI≠z
 oz:TO≠z
 az:i1≠z
 bz:i2≠z
 oa:TO≠i1
 ob:TO≠i2
 to:TI≠TO
 ta:TI≠i1
 tb:TI≠i2
 ab:i1≠i2
structure ZA (z TI TO i1 i2 l1 l2:Addr):Prop where
 D:ZApart z TI TO i1 i2
 m1:l1≠z/\l1≠TO/\l1≠i1
 m2:l2≠z/\l2≠TO/\l2≠i1/\l2≠i2
def zw {B k2:Bool}{z TI TO i1 i2 l1 l2:Addr}{j:Nat}{xs ys:AV}{x y a b:Value}{Q:QV}(Z:ZA z TI TO i1 i2 l1 l2)
  (hz:IsZip s.heap z TI TO .none) (S:IsPair s.heap TI (.ref i1) (.ref i2)) (V:IsPair s.heap TO a b) (W:k6 B s.heap i1 l1 j) (X:k6 k2 s.heap i2 l2 j) (Y:kH B s.heap l1 xs) (q2:kH k2 s.heap l2 ys) (hx:xs[j]? = some x) (hy:ys[j]? = some y)
  (q:∀h',IsZip h' z TI TO (rawInt s.z)->IsPair h' TO x y->k6 B h' i1 l1 (j+1)->k6 k2 h' i2 l2 (j+1)->IsPair h' s.z x y->h'.objs.size=s.z+1->IsPair h' TI (.ref i1) (.ref i2) ->
   (∀c o,c∉[z,TI,TO,i1,i2]->s.heap.get? c=some o->h'.get? c=some o)->Q (.ref s.z) { s with heap:=h' }):
  wpAny (model prog w) A (Builtin.«zip.__next__» ⟨[.ref z],[]⟩) (λdF s'=>∃v,dF=.done (.ret v)/\Q v s') E s:=by
 obtain⟨D,m1,m2⟩:=Z;show wpAny _ _ (field (.ref z) 2>>=_) _ _ s;refine wX (wpAny_field hz rr (x:=.bool false) rr ?_);show wpAny _ _ (field (.ref z) 3>>=_) _ _ s;refine wX (wpAny_field hz rr (x:=.ref TI) rr (wX (wpAny_seqItems S rr ?_)));refine wX ?_;unfold Builtin.SmallTypes.ownedTupleIsFree;refine wX (wpAny_field hz rr (x:=.none) rr (wY ?_));simp only[if_true];refine wX (wpAny_rule (wX (wpAny_field hz rr (x:=.ref TO) rr (wX (wpAny_setField_rec hz C_ λg1 d s1=>?_)))));replace d:IsZip g1 z TI TO .ellipsis:=d;refine wX ?_;refine wX (wX (wpAny_onRaise ?_));refine wX (fZ (s:={ s with heap:=g1 }) (W.upon λo e=>s1.extBut _ _ D.az e) (Y.upon λo e=>s1.extBut _ _ m1.1 e) hx λg2 G s2=>wY ?_);have T:IsPair g2 TO a b:=s2.extBut _ _ D.oa (s1.extBut _ _ D.oz V);refine wX (wpAny_seqItems T rr (wX (wpAny_updateSeq_pair T λH f C=>?_)));replace f:IsPair H TO x b:=f;refine wX (wpAny_letGo (wY (wX (wX (wpAny_onRaise ?_)))));have g:∀ {c o},c≠z->c≠TO->c≠i1->s.heap.get? c=some o->H.get? c=some o:=λh c2 c3 e=>C.extBut _ _ c2 (s2.extBut _ _ c3 (s1.extBut _ _ h e));refine wX (fZ (s:={ s with heap:=H }) (X.upon λo e=>g D.bz D.ob.symm D.ab.symm e) (q2.upon λo e=>g m2.1 m2.2.1 m2.2.2.1 e) hy λg4 I i=>wY ?_);have k:IsPair g4 TO x b:=i.extBut _ _ D.ob f;refine wX (wpAny_seqItems k rr (wX (wpAny_updateSeq_pair k λM U l=>?_)));replace U:IsPair M TO x y:=U;refine wX (wpAny_letGo (wY (wY (wX (wpAny_seqItems U rr (wX (wpAny_newTuple ?_)))))));have sz:M.objs.size=s.z:=by rw[l.1,i.1,C.1,s2.1,s1.1]
 have m:∀c o,c≠z->c≠TO->c≠i1->c≠i2->s.heap.get? c=some o->M.get? c=some o:=λc o h c2 c3 c4 e=>l.extBut _ _ c2 (i.extBut _ _ c4 (g h c2 c3 e));have n:IsZip M z TI TO .ellipsis:=l.extBut _ _ D.oz.symm (i.extBut _ _ D.bz.symm (C.extBut _ _ D.oz.symm (s2.extBut _ _ D.az.symm d)));have J:k6 B M i1 l1 (j+1):=G.upon λo e=>l.extBut _ _ D.oa.symm (i.extBut _ _ D.ab (C.extBut _ _ D.oa.symm e));have K:k6 k2 M i2 l2 (j+1):=I.upon λo e=>l.extBut _ _ D.ob.symm e;have p:z<M.objs.size:=vX n;refine wX ?_;unfold Builtin.SmallTypes.ownedTupleHandOut;have L:IsZip (M.push { cls:=.type "tuple",data:=.seq #[x,y] }) z TI TO .ellipsis:=vZ _ n;refine wX (wpAny_setField_rec L C_ λg7 N P=>?_);refine wpAny_setField_rec N C_ λF r R=>?_;have O:∀c o,c≠z->M.get? c=some o->F.get? c=some o:=λc o h e=>R.extBut _ _ h (P.extBut _ _ h (vZ _ e));have t:IsPair F M.objs.size x y:=R.extBut _ _ (ne_of_gt p) (P.extBut _ _ (ne_of_gt p) (vY _ rr));have u:F.objs.size=M.objs.size+1:=by rw[R.1,P.1,Heap.size_push]
 rw[sz]at r t u;refine wY ⟨_,rr,?_⟩;show Q (.ref M.objs.size) _;rw[sz];exact q F r (O _ _ D.oz U) (J.upon λo e=>O _ o D.az e) (K.upon λo e=>O _ o D.bz e) t u (O _ _ D.tz (m _ _ D.tz D.to D.ta D.tb S)) λc o hc e=>by
  simp at hc;exact O c o hc.1 (m c o hc.1 hc.2.2.1 hc.2.2.2.1 hc.2.2.2.2 e)
end
section
variable {prog:Program}{w:World}{A:Around}{E:QV}{s:Shared}
def D0 {n k2:Bool}{z TI TO V X T Y:Addr}{j:Nat}{xs ys:AV}{a b:Value}{Q:PySem.Fin->Shared->Prop}(p:A.handled=none)(Z:ZA z TI TO V X T Y)
  (W:IsZip s.heap z TI TO .none) (C:IsPair s.heap TI (.ref V) (.ref X)) (F:IsPair s.heap TO a b) (r:k6 n s.heap V T j) (G:k6 k2 s.heap X Y j) (t:kH n s.heap T xs) (q2:kH k2 s.heap Y ys) (he:xs[j]? = none\/ys[j]? = none)
  (q:∀h' x,(∀c o,c∉[z,TI,TO,V,X]->s.heap.get? c=some o->h'.get? c=some o)->(∃o,h'.get? x=some o/\o.cls=.type "StopIteration")->E (.ref x) { s with heap:=h' }):
  wpAny (model prog w) A (Builtin.«zip.__next__» ⟨[.ref z],[]⟩) Q E s:=by
 obtain⟨D,m1,m2⟩:=Z;show wpAny _ _ (field (.ref z) 2>>=_) _ _ s;refine wX (wpAny_field W rr (x:=.bool false) rr ?_);refine wX (wpAny_field W rr (x:=.ref TI) rr (wX (wpAny_seqItems C rr ?_)));refine wX ?_;refine wX (wpAny_field W rr (x:=.none) rr (wY ?_));simp only[if_true];refine wX (wpAny_rule (wX (wpAny_field W rr (x:=.ref TO) rr (wX (wpAny_setField_rec W C_ λg1 O R=>?_)))));refine wX ?_;refine wX (wX (wpAny_onRaise ?_));cases hx:xs[j]? with
 |none=>
  refine wX (jq (s:={ s with heap:=g1 }) p (r.upon λo e=>R.extBut _ _ D.az e) (t.upon λo e=>R.extBut _ _ m1.1 e) hx λf x S hX=>?_);obtain⟨g,h,i⟩:=hX;have k:IsZip f z TI TO .ellipsis:=S _ _ D.az.symm O;have l:x≠z:=λH=>by lia
  exact wpAny_setField_rec k C_ λd _ U=>q d x (λc o P e=>by simp at P;exact U.extBut _ _ P.1 (S _ _ P.2.2.2.1 (R.extBut _ _ P.1 e))) ⟨g,U.extBut _ _ l h,i⟩
 |some v=>
  have hy:ys[j]? = none:=by
   simp_all
  refine wX (fZ (s:={ s with heap:=g1 }) (r.upon λo e=>R.extBut _ _ D.az e) (t.upon λo e=>R.extBut _ _ m1.1 e) hx λf I S=>wY ?_);have u:IsPair f TO a b:=S.extBut _ _ D.oa (R.extBut _ _ D.oz F);refine wX (wpAny_seqItems u rr (wX (wpAny_updateSeq_pair u λd J U=>?_)));refine wX (wpAny_letGo (wY (wX (wX (wpAny_onRaise ?_)))));have M:∀ {c o},c≠z->c≠TO->c≠V->s.heap.get? c=some o->d.get? c=some o:=λK c2 c3 e=>U.extBut _ _ c2 (S.extBut _ _ c3 (R.extBut _ _ K e));refine wX (jq (s:={ s with heap:=d }) p (G.upon λo e=>M D.bz D.ob.symm D.ab.symm e) (q2.upon λo e=>M m2.1 m2.2.1 m2.2.2.1 e) hy λL x y hX=>?_);obtain⟨g,h,i⟩:=hX;have m:IsZip L z TI TO .ellipsis:=y _ _ D.bz.symm (U.extBut _ _ D.oz.symm (S.extBut _ _ D.az.symm O));have l:x≠z:=λH=>by lia
  exact wpAny_setField_rec m C_ λN _ B=>q N x (λc o P e=>by simp at P;exact B.extBut _ _ P.1 (y _ _ P.2.2.2.2 (M P.1 P.2.2.1 P.2.2.2.1 e))) ⟨g,B.extBut _ _ l h,i⟩
end
def lI {X:Cx}{D:AO}{F:St}{H:Hp}{s:Shared}{h':Heap}{t':Nat}{ch:List Addr}(I:Inv X D F H s)(f:∀b∈ch,mm X D H b)(k:∀b o,b∉ch->s.heap.get? b=some o->h'.get? b=some o):Inv X D F H { s with heap:=h',toks:=t' }:=by
 have M:∀b u,H b=some u->b∉ch:=λb u e z=>by rw[(f b z).1]at e;cases e
 refine I.step (λb K=>?_) (λb o y y w e y=>k b o w e) (λb o y y w e y=>⟨o.slots,k b o w e⟩) (λy y y y n=>n)
  (λb o w e=>⟨o,k b o w e⟩) (λy y e=>e) (λy y y e=>e) (λy y e=>e) (λm P=>?_) (λb u e=>?_) I.bare
 .obtain⟨_,f1,_,O,U,a⟩:=f b K;exact⟨O,f1,U,a⟩
 .obtain⟨o,R,d,g,r⟩:=P;exact⟨o,R,d,k _ o (λz=>(f _ z).2.1 rr) g,r⟩
 .refine(I.hok b u e).stay (λc v w q=>k c v ?_ q) (λy q=>q) (λy y q=>q) λy y y q=>q;grind
def D1 {X:Cx}{P:AO}{W:St}{H:Hp}{s:Shared}{R:Heap}{t':Nat}{K:List Addr}{a:Addr}{S:HO}(I:Inv X P W H s)(f:∀b∈K,mm X P H b)(k:∀b o,b∉K->s.heap.get? b=some o->R.get? b=some o)(Z:s.z<=a)
  (l:bA X.prog X.w (upd H a S) R a S):Inv X P W (upd H a S) { s with heap:=R,toks:=t' }:=by
 have D:H a=none:=I.hok.fresh Z;have M:∀b u,H b=some u->b∉K:=λb u e z=>by rw[(f b z).1]at e;cases e
 refine I.step (ch:=K) (λb V=>?_) (λb o y y F e y=>k b o F e) (λb o y y F e y=>⟨o.slots,k b o F e⟩) (λb o y e n=>by rw[a8 ((λb o e=>vS (vQ (vX e) Z)) b o e)];exact n)
  (λb o F e=>⟨o,k b o F e⟩) (λb j e=>by rw[a8 (aV e D)];exact e) (λb o u e=>by rw[a8 (aV e D)];exact e) (λb x e=>by rw[a8 (aV e D)];exact e) (λm p=>?_) (λb u e=>?_) I.bare
 .obtain⟨_,f1,_,U,d,g⟩:=f b V;exact⟨U,f1,d,g⟩
 .obtain⟨o,t,h,i,r⟩:=p;exact⟨o,t,h,k _ o (λz=>(f _ z).2.1 rr) i,r⟩
 .by_cases V:b=a
  .simp_all[av]
  .rw[a8 V]at e;refine(I.hok b u e).stay (λc v F q=>k c v ?_ q) (λc q=>?_) (λc j q=>?_) λc o j q=>?_
   .grind
   .rw[a8 (aV q D)];exact q
   .rw[a8 (aV q D)];exact q
   .rw[a8 (aV q D)];exact q
noncomputable def Itz (K:Frag)(M c:Bool)(O U:Addr):It:=
  ⟨λi H=>∃a b x y,lH M K H O a/\lH c K H U b/\a[i]? = some x/\b[i]? = some y,
   λi H v k=>∃T x y,v=.ref T/\H T=none/\k=upd H T (.tup [x,y])/\(∀a,lH M K H O a->a[i]? = some x)/\(∀b,lH c K H U b->b[i]? = some y),
   λi H=>∃a b,lH M K H O a/\lH c K H U b/\(a.length<=i\/b.length<=i)⟩
def Jx {P:Program}{w:World}{K:Frag}{es:QD}{F:Nat}{pt:Pos}{C k2:Bool}{l m z TI TO i1 i2:Addr}(Z:ZA z TI TO i1 i2 l m):
  Turn P w K (.Tuple es F pt) (Itz K C k2 l m) [z,TI,TO,i1,i2] z (λi h=>IsZip h z TI TO .none/\IsPair h TI (.ref i1) (.ref i2)/\(∃a b,IsPair h TO a b)/\k6 C h i1 l i/\k6 k2 h i2 m i) where
 mem:=C_
 obj:=λi h st b hb=>by
  obtain⟨hz,d,⟨a,c,f⟩,O,U⟩:=st;simp at hb;rcases hb with rfl|rfl|rfl|rfl|rfl
  .simp_all
  .simp_all
  .simp_all
  .exact O.ob
  .exact U.ob
 keep:=λi h h' st k=>by
  obtain⟨hz,d,⟨a,c,f⟩,O,U⟩:=st;exact⟨k z C_ _ hz,k TI C_ _ d,⟨a,c,k TO C_ _ f⟩,O.upon λo e=>k i1 H9 o e,U.upon λo e=>k i2 H9 o e⟩
 item:=by
  intro X n hw p hc i ag s σ H E I hf st r;subst n hw p;refine cX λ_ g'=>?_;obtain⟨hz,d,⟨a,c,f⟩,O,U⟩:=st;obtain⟨xs,ys,x,y,j,q2,hx,hy⟩:=r;obtain⟨its,t,A,G⟩:=j.vals I;obtain⟨J,B,p2,L⟩:=q2.vals I;obtain⟨u,hu,ru⟩:=t.get hx;obtain⟨v,hv,N⟩:=B.get hy;apply g';have g:s.TypeIs (.ref z) "zip":=⟨_,hz,rr⟩;have fresh:H s.z=none:=I.hok.fresh (vT _);have lt:∀ {c o},s.heap.get? c=some o->c≠s.z:=λe=>vS (vX e);have l1:i1≠s.z:=by obtain⟨o,e,_⟩:=O.ob;exact lt e
  have l2:i2≠s.z:=by obtain⟨o,e,_⟩:=U.ob;exact lt e
  unfold pyNext;refine wX (wpAny_attempt (wpAny_callSpecial?_slot (name:=Str.ofString "__next__") g slot_zip_next (wpAny_call_entry slot_zip_next g entry_zip_next (zw Z hz d f O U A p2 (by simpa using hu) (by simpa using hv) λh' b1 b2 b3 b4 Q b6 R bk=>wY ?_) (args_zip_next_1 _))));refine⟨_,rr,wpAny_letOwnedTupleGo_zip (s:={ s with heap:=h' }) b1 λh2 S s2=>?_⟩;have M:Heap.SameBut z h' h2:=s2;have V:∀b o,b∉[z,TI,TO,i1,i2]->s.heap.get? b=some o->h2.get? b=some o:=λb o hb e=>
   M.extBut _ _ (λq=>hb (by simp[q])) (bk b o hb e)
  have W:s.z≠z:=(lt hz).symm;have new:bA X.prog X.w (upd H s.z (.tup [x,y])) h2 s.z (.tup [x,y]):=⟨by show 2<=sizeLine;decide,[u,v],.cons ru (.cons N .nil),⟨_,M.extBut _ _ W Q,rr,_,rr⟩⟩;refine⟨.ref s.z,upd H s.z (.tup [x,y]),?_,rr,⟨_,x,y,rr,fresh,rr,λzs hq=>by rw[lH.inj I hq j];exact hx,λzs hq=>by rw[lH.inj I hq q2];exact hy⟩,?_,λb hb=>?_⟩
  .exact D1 (s:=s) (t':=s.toks) I hf V (vT _) new
  .exact⟨S,M.extBut _ _ Z.D.tz R,⟨_,_,M.extBut _ _ Z.D.oz b2⟩,b3.upon λo e=>M.extBut _ _ Z.D.az e,b4.upon λo e=>M.extBut _ _ Z.D.bz e⟩
  .have Y:b≠s.z:=by
    simp at hb;rcases hb with rfl|rfl|rfl|rfl|rfl
    .exact lt hz
    .exact lt d
    .exact lt f
    .exact l1
    .exact l2
   rw[a8 Y];exact(hf b hb).1
 done:=by
  intro X n hw p hc i ag s σ H E I hf st r;subst n hw p;refine cX λ_ g'=>?_;obtain⟨hz,d,⟨a,c,f⟩,O,U⟩:=st;obtain⟨xs,ys,j,q2,hl⟩:=r;obtain⟨its,t,A,G⟩:=j.vals I;obtain⟨J,B,p2,L⟩:=q2.vals I;apply g';have g:s.TypeIs (.ref z) "zip":=⟨_,hz,rr⟩;have n1:=t.length;have n2:=B.length;unfold pyNext;refine wX (wpAny_attempt (wpAny_callSpecial?_slot (name:=Str.ofString "__next__") g slot_zip_next (wpAny_call_entry slot_zip_next g entry_zip_next (D0 (I.ok.hd hc) Z hz d f O U A p2 (hl.imp (λq=>by simp;lia) λq=>by simp;lia) λh' x hk hX=>?_) (args_zip_next_1 _))));obtain⟨o,eo,co⟩:=hX;refine wX (wpAny_isInstance (T:="StopIteration") (b:=true) ⟨o,eo,co⟩ isSubtype_stop (wY ⟨rr,?_⟩));exact lI (t':=s.toks) I hf hk
 self:=λ_ _ _ _ _ st h=>wpAny_pyIter_zip st.1 h
section
variable {X:Cx}{a b e:Expr}{pos:Pos}{p:Pos}
def Q1:bootBuiltins "zip" = some (.type "zip"):=s9
def W2 (K:Frag)(q:TA):TI:=λr H R=>q r H λw M=>∃(O o:Bool)(c k:Addr)(z D:LV),w=[.ref c,.ref k]/\lH O K M c z/\lH o K M k D/\R (Itz K O o c k) M
def zx {Q:QV}{E:QV}{A:Around}(M:Inv X v x s n)(P:lH y X.K s t C)(R:lH B X.K s u G)
  (q:∀o z TI TO r D,Inv X v x s { n with heap:=o }->ZA z TI TO r D t u->IsZip o z TI TO .none->IsPair o TI (.ref r) (.ref D)->IsPair o TO .none .none->k6 y o r t 0->k6 B o D u 0->(∀b∈[z,TI,TO,r,D],mm X v s b)->Q (.ref z) { n with heap:=o }):
  wpAny (model X.prog X.w) A (call (.type "zip") [.ref t,.ref u]) Q E n:=by
 obtain⟨S,i,U,j⟩:=P.vals M;obtain⟨k,l,F,m⟩:=R.vals M;have WX:=U.lt;have c:=F.lt;refine NT U F λo d c2 c3 f g h=>q o _ _ _ _ _ (M.kept (t':=n.toks) h) ⟨by constructor<;>simp,N9,N9⟩ d c2 c3 f g λb V=>?_
 have O:n.z<=b:=by
  grind
 exact M.fpOk O (M.hok.fresh O)
def S9 {D:QD}{d:Nat}{F:Pos}{w:TA}(f:Gl X "zip")(P:X.mg "zip" = none)(S:PA X [a,b] w)(V:starEach [a,b] X.env=[(false,eval a X.env),(false,eval b X.env)]:=by rfl)(M:d4 b X.env:=by rfl):
  PI X (.Tuple D d F) (.Call (.Name "zip" p) [a,b] [] pos) (W2 X.K w):=by
 intro x s W H R I h;refine Call_ (jb I f P Q1 (PyProof.Rows.callWith_type1 (bY (S _ _ s W H _ I h) λy A ⟨B,g,i,j,k⟩=>?_) (by rw[V,M]) (by rw[M];rfl)));refine cX λe g'=>?_;obtain⟨n,C,E,G,L,N,rfl,t,u,q⟩:=k;obtain⟨o,r,rfl,O,U⟩:=j.two;apply g';cases O
 cases U
 exact zx i t u λQ z TI TO T Y J Z c c2 c3 l m v=>wpAny_pyIter_zip c ⟨_,_,_,_,g,rr,J,Jx Z,⟨c,c2,⟨_,_,c3⟩,l,m⟩,v,q⟩
noncomputable def jr (c k:LD):LD:=List.zipWith (λx y=>.tup [x,y]) c k
@[simp] def Jy (k M:FE):FA:=λc=>(k c).bind λx=>(M c).bind λy=>(gE x.1).bind λo=>(gE y.1).map λq=>jr o q
def wb {K:Frag}(h:Is K B v d)(e:gE d=some o):∃k a q,v=.ref a/\lH k K B a q/\IsL K B q o:=by
 cases h with
 |tup M c=>cases e;exact⟨false,_,_,rr,M,c⟩
 |lst M c=>cases e;exact⟨true,_,_,rr,M,c⟩
 |_=>cases e
def SA {H s}(I:Inv X G J H s)(z:lH A X.K N B m)(P:IsL X.K N m t)(D:lH C X.K N E n)(R:IsL X.K N n u):mD X.K (Itz X.K A C B E) N (jr t u):=by
 intro i Z M;have L:=P.length;have Q:=R.length;refine⟨λd q=>?_,λY=>⟨m,n,z.same M,D.same M,?_⟩⟩
 .unfold jr at q;rw[List.getElem?_zipWith]at q;cases O:t[i]? with
  |none=>rw[O]at q;simp at q
  |some x=>
   cases F:u[i]? with
   |none=>rw[O,F]at q;simp at q
   |some y=>
    rw[O,F]at q;simp at q;subst q;refine cX λp g'=>?_;obtain⟨v,S,V⟩:=P.get O;obtain⟨w,c,h⟩:=R.get F;apply g';refine⟨⟨m,n,v,w,z.same M,D.same M,S,c⟩,λr H2 W=>?_⟩;obtain⟨T,k,l,rfl,j,rfl,f1,f2⟩:=W;have f:=f1 m (z.same M);have g:=f2 n (D.same M);rw[S]at f;cases f;rw[c]at g;cases g;have U:=Ext.laid (o:=.tup [v,w]) M j;exact⟨_,U,.tup (iH.of av) (.cons (V.mono U.bn) (.cons (h.mono U.bn) .nil))⟩
 grind[jr]
def SD {K:QD}{h:Nat}{P:Pos}{w g:FE}(S:X.mg "zip" = none)(V:JE X a w)(W:JE X b g)(i:Gl X "zip")(z:starEach [a,b] X.env=[(false,eval a X.env),(false,eval b X.env)])(O:d4 b X.env):
  JI X (.Tuple K h P) (.Call (.Name "zip" p) [a,b] [] pos) (Jy w g):=by
 intro T s Z H R I q;refine S9 i S (iJ V (iJ W p8 O) (by rw[dS,z,O])) z O _ s Z H R I ?_;obtain⟨B,v,Y,j,r,M,q⟩:=q;refine eX M λk x M=>?_;refine eX M λl m M=>?_;refine eX M λxs U M=>?_;refine eS M λys c M=>?_;subst M;refine⟨B,v,[k.1,l.1],j,r,by simp[x,m],λvs n y d A=>?_⟩;cases A with
 |cons o f=>
  cases f with
  |cons f t=>
   cases t
   refine cX λe g'=>?_;obtain⟨u,C,E,rfl,D,G⟩:=wb o U;obtain⟨J,L,N,rfl,F,Q⟩:=wb f c;apply g';exact⟨u,J,C,L,E,N,rr,D.same d.nh,F.same d.nh,q _ n y d (SA I D G F Q)⟩
end
noncomputable def unown1 (a:Env)(i:Nat):Env:=match a[i]? with
 |some (some (d,true))=>a.set i (some (d,false))
 |_=>a
set_option tactic.hygienic true in
def dG.unown1 {K:Frag}{R S N H:Hp}{F:St}{w:Env}(s:dG K R S N H F w)(i:Nat):dG K R S N H F (unown1 w i):=by
 unfold DL.unown1;split
 .rename_i d V;obtain⟨a,A,W,Z,B,t⟩:=s.ow i d V;have get:∀ {j:Nat}{e:D}{b:Bool},(w.set i (some (d,false)))[j]? = some (some (e,b))->(i=j/\e=d/\b=false)\/(i≠j/\w[j]? = some _):=λq=>by
   rcases bZ q with⟨z,p⟩|⟨z,p⟩
   .cases p;exact .inl ⟨z,rr,rr⟩
   .exact .inr ⟨z,p⟩
  have o:∀c,own F (w.set i (some (d,false))) c->own F w c/\c≠a:=λc ⟨j,e,U,X⟩=>by
   rcases get U with⟨_,_,z⟩|⟨x,q⟩
   .cases z
   .exact⟨⟨j,e,q,X⟩,λz=>by subst z;exact x (s.inj i j _ _ _ V q W X)⟩
  have c:aS (dZ N (own F w)) _:=eB λb u e q=>⟨e,λz=>q (o b z).1⟩;have g:=λz=>(o a z).2 rr;refine⟨s.bh,s.tb,s.ext,by rw[length_set];exact s.len,λj e q=>?_,λj e q=>?_,λj k b e f q M h l=>?_⟩
  .rcases get q with⟨rfl,rfl,_⟩|⟨_,q⟩
   .exact⟨_,W,(t.mono c).is (by rw[cH g];exact Z)⟩
   .obtain⟨v,O,P⟩:=s.sh j e q;exact⟨v,O,P.mono c⟩
  .rcases get q with⟨_,_,z⟩|⟨_,q⟩
   .cases z
   .obtain⟨m,y,O,P,n,r⟩:=s.ow j e q;exact⟨m,y,O,P,n,r.mono c⟩
  .rcases get q with⟨_,_,z⟩|⟨_,q⟩
   .cases z
   .rcases get M with⟨_,_,z⟩|⟨_,M⟩
    .cases z
    .exact s.inj j k b e f q M h l
 .exact s
@[simp] noncomputable def Q2 (is:LN)(g:FS):FS:=λa=>g (is.foldl unown1 a)
theorem dG.unowns {K:Frag}:∀(is:LN){k:Env},dG K a b N H c k->dG K a b N H c (is.foldl DL.unown1 k)
 |[],_,s=>s
 |i::is,_,s=>dG.unowns is (s.unown1 i)
def W3 is(h:JS X a g):JS X a (Q2 is g):=PS.to h λz z z=>λq=>by
 obtain⟨b,c,k,r,⟨N,s⟩,e,p⟩:=q;exact⟨b,c,_,r,⟨N,s.unowns is⟩,e,p⟩
@[simp] def Jz:FS:=λa=>some (.ct a)
@[simp] def sk:FS:=λz=>none
section
variable {X:Cx}{pos:Pos}
def NU:JS X (.Continue pos) Jz:=PS.to (λz z a H z I h=>wpAny_Continue ⟨a,H,I,h⟩) λE a H q=>by
 obtain⟨b,c,k,r,s,e,p⟩:=q;cases e
 exact p a H s
def J0:JS X a sk:=λb s c H E I q=>by
 obtain⟨k,o,w,r,z,e,z⟩:=q;cases e
end
inductive CRows (K:Frag)(P:Params):List DictEntry->List (Str×D)->Prop where
 |nil:CRows K P [] []
 |tup {x:Str}{t:Tok}{h:Int}{a:Addr}{its:Array Value}{n:Nat}{pv:Array (Option Value)}{ds:List D}{r:List DictEntry}{aB:List (Str×D)}(hh:h=PyData.keyHash P x)
   (l:K.lookup a=some ⟨.type "tuple",none,.seq its n,pv⟩) (f:(decide (its.size<=1000) && jF its.toList ds)=true) (tl:CRows K P r aB):CRows K P (⟨h,.str x t,.ref a⟩::r) ((x,.tup ds)::aB)
 |flat {x:Str}{t:Tok}{h:Int}{u:Value}{d:D}{r:List DictEntry}{aB:List (Str×D)}(hh:h=PyData.keyHash P x) (f:xS u d=true) (tl:CRows K P r aB):CRows K P (⟨h,.str x t,u⟩::r) ((x,d)::aB)
theorem CRows.lit {K:Frag}{c:List DictEntry}{k:List (Str×D)}(h:CRows K P c k):PySem.W.KeysLit P c:=h.rec trivial (λa _ _ _ b=>⟨⟨_,_,rr,a⟩,b⟩) λa _ _ b=>⟨⟨_,_,rr,a⟩,b⟩
theorem CRows.find {K:Frag}{P:Params}(y:Str){k:List DictEntry}{w:List (Str×D)}(h:CRows K P k w):match w.lookup y with
  |none=>k.find? (λe=>Value.isStrOf y e.key)=none
  |some d=>∃e v,k.find? (λe=>Value.isStrOf y e.key)=some e/\aI v e.val/\∀B,Is K B v d:=by
 induction h with
 |nil=>rfl
 |@tup x t _ a _ _ _ S _ _ F l f _ M=>
  by_cases e:y=x
  .subst e;rw[List.lookup_cons_self];rw[vC]at f;obtain⟨V,r,i⟩:=jG (K:=K) f.2;exact⟨_,.ref a,List.find?_cons_of_pos (by simp[Value.isStrOf]),rr,λB=>.tup (.inr ⟨_,_,_,l,rr,rr,le_of_lt (lt_of_le_of_lt (HN f.1) I9),r⟩) (i B)⟩
  .rw[lookup_cons,beq_eq_false_iff_ne.mpr e];have O:Value.isStrOf y (Value.str x t)=false:=by
    rw[eq_false_iff];intro z;obtain⟨R,q⟩:=Value.isStrOf_shape z;simp_all
   simp only[find?_cons,O];exact M
 |@flat x t _ u d _ _ F f _ M=>
  by_cases e:y=x
  .subst e;rw[List.lookup_cons_self];obtain⟨v,b,s⟩:=lE (K:=K) (B:=λs=>none) f;refine⟨_,v,List.find?_cons_of_pos (by simp[Value.isStrOf]),b,λB=>?_⟩;obtain⟨c,U,h⟩:=lE (K:=K) (B:=B) f;have:c=v:=by have g:=b.abs;rw[U.abs]at g;simp_all
   simp_all
  .rw[lookup_cons,beq_eq_false_iff_ne.mpr e];have O:Value.isStrOf y (Value.str x t)=false:=by
    rw[eq_false_iff];intro z;obtain⟨R,q⟩:=Value.isStrOf_shape z;simp_all
   simp only[find?_cons,O];exact M
def nQ (K:Frag)(P:Params)(a:Addr)(c:List (Str×D)):Prop:=∃b n,K.lookup a=some ⟨.type "dict",none,.dict b n,#[]⟩/\CRows K P b.toList c/\(a == sysModules)=false
def const_dict {K:Frag}(e:nsIn K mainGlobals y=some (some (.ref a)))(l:K.lookup a=some ⟨.type "dict",none,.dict b n,#[]⟩)(r:CRows K P b.toList c)(s:(a == sysModules)=false):
  ∃a,nsIn K mainGlobals y=some (some (.ref a))/\nQ K P a c:=⟨a,e,b,n,l,r,s⟩
section
variable {X:Cx}{a b e:Expr}{pos:Pos}{x:Str}{p:Pos}
def nQ.map(I:Inv X z F H s)(h:nQ X.K X.w.params d k):∃f:SV,s.heap.MapOf (strKind X.prog X.w) d f/\(d == sysModules)=false /\
  ∀y,match k.lookup y with|none=>f y=none|some o=>∃u v,f y=some u/\aI v u/\∀B,Is X.K B v o:=by
 obtain⟨q,n,l,r,M⟩:=h;refine⟨_,PySem.W.mapOf_K I.kIn l r.lit,M,λy=>?_⟩;have:=r.find y;have O:findBy Value.isStrOf q y=(q.toList.find? λe=>Value.isStrOf y e.key).map (·.val):=by
  simp[findBy]
 cases P:k.lookup y with
 |none=>simp_all
 |some o=>
  rw[P]at this;obtain⟨R,v,U,S,c⟩:=this;exact⟨R.val,v,by rw[O,U];rfl,S,c⟩
@[simp] noncomputable def zy (c:List (Str×D)):D->OB
 |.str y=>(c.lookup y).map λd=>(d,false)
 |_=>none
@[simp] noncomputable def BV (c:List (Str×D)):D->OB
 |.str y=>some (.bl (!(c.lookup y).isSome),false)
 |_=>none
set_option tactic.hygienic true in
def NV (h:∃d,X.mg x=some (.ref d)/\nQ X.K X.w.params d G)(V:JE X b f)(k:Gl X x)(W:bB x)(R:nD b):JE X (.Subscript (.Name x p) b pos) (f1 (zy G) f):=by
 obtain⟨d,Z,J⟩:=h;have l:RG X (λx y H Q=>∃z P,x=.ref d/\y=.str z/\G.lookup z=some P/\∀v,(∀B,Is X.K B v P)->Q v H):=by
  intro O U ag s L H x y v u Q I m n q R;obtain⟨z,P,rfl,rfl,o,q⟩:=q;cases m
  obtain⟨t,rfl⟩:=n;obtain⟨f,i,D,N⟩:=J.map I;have:=N z;rw[o]at this;obtain⟨u,v,c,S,A⟩:=this;exact tail_any i.typeIs slot_dict_getitem.lookup (wpAny_getItem_of (strKind_is X.prog X.w z t) i c ⟨v,H,I.tok _,S,q v A⟩) R
 refine PE.to (IA l ( λ_ _ _ H _ I h=>xy I k Z ⟨(.ref d),H,I,rr,h⟩ W) V R) λL H Q q=>?_;refine cX λ_ g'=>?_;obtain⟨B,T,d',bb,C,r,M,q⟩:=q;apply g';refine eX M λg Y M=>?_;refine⟨B,T,g.1,g.2,C,r,Y,λv E N1 j i1 _=>?_⟩;obtain⟨xd,F⟩:=g;cases i1<;>try (simp[zy]at M;done)
 rename_i z _;refine eS M λP c S=>?_;cases S
 exact⟨z,_,rr,rr,c,λv hv=>(q.into j).one j.nh (hv _)⟩
@[simp] noncomputable def NW:LD->OB
 |[.lst c]=>some (.lst c,true)
 |[.tup c]=>some (.lst c,true)
 |_=>none
@[simp] noncomputable def J5:LD->OB
 |[.lst c]=>some (.tup c,false)
 |[.tup c]=>some (.tup c,false)
 |_=>none
set_option tactic.hygienic true in
def SG:bH X (.type "list") (yM X.K NW):=by
 refine bH.to (by
  intro j s m H f t Q I r h;obtain⟨p,F,rfl,P,q⟩:=h;obtain⟨u,rfl,d⟩:=gA r;cases d
  have g:∀(k:LU),bd F k->F.length<=sizeLine->∀(D:Heap)(M:Nat),(∀b i,s.heap.get? b=some i->D.get? b=some i) ->
    D.get? s.z=some _->EP X j m Q (.ref s.z) _:=λk O R D M S e=>
   ⟨.ref s.z,_,I.laid (t':=s.toks) S (vT _) (show bA X.prog X.w _ D _ (.lst F)from ⟨R,k,M,O,e⟩),rr,q _ (I.hok.fresh (vT _))⟩
  rcases P with P|P
  .refine I.lisE P λk O V R=>?_;have U:=O.length;obtain⟨o,c,W,n,Z⟩:=V.isList;exact call_list_seq p (.inl rr) c W Z (λD M S e=>g k O R D M S e) (by simp_all)
  .refine I.tupE P λk O V R=>?_;have U:=O.length;obtain⟨o,c,W,n,Z⟩:=V;exact call_list_seq p (.inr rr) c W Z (λD M S e=>g k O R D M S e) (by simp_all):bH X (.type "list") (λf H Q=>∃p F,f=[.ref p]/\(fW X.K H p F\/iH X.K H p F)/\∀l,H l=none->Q (.ref l) (upd H l (.lst F)))) λP H Q q=>?_;refine e6 q λB R d S U i O q=>?_;cases i with
 |nil=>simp at O
 |cons z D=>
  cases D with
  |cons _ _=>cases z<;>simp at O
  |nil=>
   cases z<;>try (simp at O;done)
   .rename_i c w F h k;cases O
    refine⟨_,_,rr,.inr (bf U h),λl r=>?_⟩;have M:=Ext.laid (o:=.lst w) U r;exact q _ _ _ M (.lst (fW.of av) (k.mono M.bn)) λ_=>⟨_,_,_,rr,rr,r,av,k.mono M.bn⟩
   .rename_i c w F h k;cases O
    refine⟨_,_,rr,.inl (U.seq h),λl r=>?_⟩;have M:=Ext.laid (o:=.lst w) U r;exact q _ _ _ M (.lst (fW.of av) (k.mono M.bn)) λ_=>⟨_,_,_,rr,rr,r,av,k.mono M.bn⟩
set_option tactic.hygienic true in
def NX:bH X (.type "tuple") (yM X.K J5):=by
 refine bH.to (by
  intro S s V H R f Q I r h;obtain⟨p,z,rfl,h⟩:=h;obtain⟨u,rfl,c⟩:=gA r;cases c
  rcases h with⟨F,q⟩|⟨F,q⟩
  .refine I.lisE F λk M P W=>?_;have O:=M.length;refine call_tuple_list P.isList (λD Z=>?_) (by simp_all);have U:=I.kept (t':=s.toks) Z;exact⟨.ref _,_,U.laid (t':=s.toks) (λb o e=>vZ _ e) (vT _) (show bA X.prog X.w _ _ _ (.tup z)from ⟨W,k,M,IsTup.new _ _⟩),rr,q _ (U.hok.fresh (vT _))⟩
  .exact I.tupE F λk M P W=>call_tuple_same P ⟨.ref p,H,I,rr,q⟩:bH X (.type "tuple") (λR H Q=>∃p z,R=[.ref p]/\((fW X.K H p z/\∀l,H l=none->Q (.ref l) (upd H l (.tup z)))\/(iH X.K H p z/\Q (.ref p) H)))) λP H Q q=>e6 q λB R d S M i O q=>?_;cases i with
 |nil=>simp at O
 |cons w z=>
  cases z with
  |cons _ _=>simp_all
  |nil=>
   cases w<;>try (simp at O;done)
   .rename_i c r D h k;cases O
    exact⟨_,_,rr,.inr ⟨bf M h,q.one M (.tup h k)⟩⟩
   .rename_i c r D h k;cases O
    refine⟨_,_,rr,.inl ⟨M.seq h,λl F=>?_⟩⟩;have U:=Ext.laid (o:=.tup r) M F;exact q _ _ _ U (.tup (iH.of av) (k.mono U.bn)) H9
end
section
variable {X:Cx}{a b e:Expr}{pos:Pos}{x:Str}{p:Pos}
def J6 (K:Frag)(n:Nat)(t:Qo):TG:=λv o H Q=>∃k a c,v=.ref a/\lH k K H a c/\c.length=n/\t c o H Q
def BW (D:X.calm=true)(h:Vo X d t)(F:(assignEach d X.env).length=n)(M:(assignEach d X.env).findIdx? (·.1)=none):PG X (.Tuple d f pos) (J6 X.K n t):=by
 intro P s R H v u Q I r w;obtain⟨k,l,S,rfl,V,Z,w⟩:=w;cases r
 cases k with
 |false=>
  refine I.tupE V λq O U g=>?_;refine assign_Tuple_tuple (I.ok.hd D) U (by simp[F,<-Z,O.length]) M λi hx=>?_;have c:=I.kept (t':=s.toks) λb o e=>hx b o (vS (vX e)) e;exact h P _ R H S _ Q c (by simpa using O) w
 |true=>
  refine I.lisE V λq O U g=>?_;refine wX (wpAny_standAt ?_);unfold unpack;have z:(assignEach d X.env).length=q.toArray.size:=by simp[F,<-Z,O.length]
  rw[z,M];refine wX (wpAny_holding (PySem.W.kun_itemsOf (I.ok.hd D) U.isList λi hx=>?_));have c:=I.kept (t':=s.toks) λb o e=>hx b o (vS (vX e)) e;exact h P _ R H S _ Q c (by simpa using O) w
@[simp] def nR (is:LN)(f:FE):FS:=λc=>(f c).bind λx=>(gE x.1).bind λk=>(gO is k (if aU k=true then c else unown c)).map .nx
def xT (c:JE X e f)(M:PG X (.Tuple d O g) (J6 X.K is.length (jH is)))(k:swapsWithSole [.Tuple d O g] e pos.line X.env=pure false)(o:swappedStores [.Tuple d O g] e X.env=pure none)
  (r:(assignEach [.Tuple d O g] X.env).map (·.2)=[assign (.Tuple d O g) X.env]):JS X (.Assign [.Tuple d O g] e pos) (nR is f):=PS.to (Ik c M k o r) λy y y=>λq=>by
   obtain⟨j,l,R,r,⟨N,s⟩,e,p⟩:=q;refine eX e λx S e=>eX e λV W e=>?_;refine eS e λZ M e=>?_;subst e;refine⟨N,R,x.1,x.2,s.ext.nh,s.rep,S,λv c P d h y=>?_⟩;obtain⟨k,a,i,rfl,g,O⟩:=wb h W;have w:=s.grow d;refine⟨k,a,i,rr,g.same d.nh,by rw[O.length];exact lG M,?_⟩;by_cases z:aU V=true
   .rw[if_pos z]at M;exact lF w (w.flats O z) M λU D=>p _ c ⟨P,D⟩
   .rw[if_neg z]at M;exact lF w.unown (O.mono λa o e=>by rw[cH p5];exact e) M λU D=>p _ c ⟨P,D⟩
@[simp] noncomputable def NY (i:Nat)(M O:FE):FS:=λc=>match c[i]? with
 |some (some (.lst o,true))=>(O c).bind λv=>(M c).bind λk=>match k.1 with
  |.int j=>(HX o.length j).bind λn=>if bi v.1=true then some (.nx (c.set i (some (.lst (o.set n v.1),true))))else none
  |_=>none
 |_=>none
def SH (V:JE X e J)(W:JE X k L)(g:X.N[i]? = some y)(O:M6 X.env.scope y)(Z:bB y)
  (h:mo y)
  (Q:∀v,assign (.Subscript (.Name y G) k pt) X.env v=(do
   let U <-holding [v] (eval (.Name y G) X.env)
   let I <-holding [v,U] (eval k X.env)
   standAt pt
   holding [v,U,I] (setItem U I v)
   release [v,U,I] []))
  (T:swapsWithSole [.Subscript (.Name y G) k pt] e pos.line X.env=pure false) (Y:swappedStores [.Subscript (.Name y G) k pt] e X.env=pure none)
  (F:(assignEach [.Subscript (.Name y G) k pt] X.env).map (·.2)=[assign (.Subscript (.Name y G) k pt) X.env]):JS X (.Assign [.Subscript (.Name y G) k pt] e pos) (NY i L J):=by
 refine PS.to (Ik V (Rz (k8 g O Z h) W IC Q) T Y F) λE σ H q=>?_;obtain⟨B0,H0,S,r,⟨N,s⟩,M,p⟩:=q;unfold NY at M;split at M
 .rename_i ds R;refine eX M λv ev M=>?_;refine eX M λm ek M=>?_;obtain⟨kd,w⟩:=m;cases kd with
  |int j=>
   refine eX M λn en M=>?_;split at M
   .rename_i hn;cases M
    refine⟨N,S,v.1,v.2,s.ext.nh,s.rep,ev,λA B N1 o i1 _=>?_⟩;have K:=s.grow o;refine cX λ_ g'=>?_;obtain⟨l,vs,t,z,F,h2,h3,h4⟩:=K.owL i _ R;apply g';refine⟨_,F,N1,S,_,_,K.ext.nh,K.rep,ek,λkv H2 N2 c i2 _=>?_⟩;cases i2
    have P:=K.grow c;obtain⟨C,u,t,z,d,k2,D,f⟩:=P.owL i _ R;cases z
    rw[F]at d;cases d;exact⟨l,u,j,n,rr,rr,P.ext.nh _ _ k2,by rw[f.length];exact en,p σ _ ⟨_,P.write R F (IsL.set (P.flat (i1.mono c.bn) hn) n f)⟩⟩
   .cases M
  |_=>cases M
 simp_all
@[simp] noncomputable def J8 (i:Nat)(f:FE):FS:=λc=>match c[i]? with
 |some (some (.lst o,true))=>(f c).bind λx=>match x.1 with
  |.lst k=>if x.2=true/\aU k=true/\o.length+k.length<=sizeLine then some (.nx (c.set i (some (.lst (o++k),true))))else none
  |_=>none
 |_=>none
def SJ (W:JE X e f)(j:X.N[i]? = some y)(Z:M6 X.env.scope y)(Q:bB y)
  (k:mo y)
  (O:attributeBase (.Name y I) "extend" X.env (eval (.Name y I) X.env)=eval (.Name y I) X.env)
  (m:qi J e X.env)
  (U:(L.endLine == J.line)=true) (V:d4 e X.env) (n:swapsWith (.Call (.Attribute (.Name y I) "extend" L) [e] [] J) none pos.line X.env=pure false):
  JS X (.Expr (.Call (.Attribute (.Name y I) "extend" L) [e] [] J) pos) (J8 i f):=by
 refine PS.to (Db (yV plainAttrs_list PySem.F.slot_list_extend PySem.F.type_list_extend Gi (k8 j Z Q k) (dI W gJ V) O m U V rr) n) λE T H q=>?_;obtain⟨B0,H0,Y,r,⟨N,s⟩,M,p⟩:=q;unfold J8 at M;split at M
 .rename_i ds P;refine eX M λv ev M=>?_;obtain⟨o,B⟩:=v;cases o with
  |lst es=>
   dsimp at M;split at M
   .rename_i R;cases M
    obtain⟨l,vs,t,z,S,h2,h3,h4⟩:=s.owL i _ P;refine⟨_,S,.inl ⟨rr,vs,fW.of (s.ext.nh _ _ h2)⟩,N,Y,_,_,s.ext.nh,s.rep,ev,λC D N1 c i1 f1=>?_⟩;obtain⟨l2,ws,u,rfl,z,g1,w,d⟩:=f1 R.1;cases z
    have K:=s.grow c;refine cX λ_ g'=>?_;obtain⟨G,A,t,z,g,k2,_,h⟩:=K.owL i _ P;apply g';cases z
    rw[S]at g;cases g;exact⟨l,l2,A,ws,rr,rr,K.ext.nh _ _ k2,c.nh _ _ w,by rw[h.length,d.length];exact R.2.2,p T _ ⟨_,K.write P S (h.append (K.flats d R.2.1))⟩⟩
   .cases M
  |_=>cases M
 simp_all
@[simp] noncomputable def W4:LD->OB
 |[.int i]=>some (.int i,false)
 |[.bl b]=>some (.int (if b then 1 else 0),false)
 |_=>none
def W5:bH X (.type "int") (yM X.K W4):=by
 refine bH.to (by
  intro w s z H o D Q I r h;rcases h with⟨i,rfl,q⟩|⟨k,rfl,q⟩
  .obtain⟨u,rfl,t,rfl⟩:=gA r;exact call_int_int ⟨.int i,H,I,⟨_,rr⟩,q⟩
  .obtain⟨u,rfl,M⟩:=gA r;cases M
   exact call_int_bool ⟨.int _,H,I.tok _,⟨_,rr⟩,q⟩:bH X (.type "int") (λo H Q=>(∃i,o=[.int i]/\Q (.int i) H)\/∃k,o=[.bl k]/\Q (.int (if k then 1 else 0)) H)) λo H Q q=>e6 q λB r d w O i M q=>?_;cases i with
 |nil=>simp at M
 |cons c k=>
  cases k with
  |cons _ _=>cases c<;>simp at M
  |nil=>
   cases c<;>try (simp at M;done)
   .cases M
    exact .inr ⟨_,rr,q.one O (.int _)⟩
   .cases M
    exact .inl ⟨_,rr,q.one O (.int _)⟩
end
open AutoSeq1 (wpAny_loadPart')
noncomputable def sqT (k:Bool):String:=if k=true then "list" else "tuple"
set_option tactic.hygienic true in
def z4 (k:Bool)(l:Addr)(a:AV)(n:Nat)(M:Option Addr)r:
  Meets (Builtin.«enumerate.__new__» ⟨[.type "enumerate",.ref l],[]⟩) (λ_ R s=>s.heap.get? l=some { cls:=.type (sqT k),dict:=M,data:=.seq a n,slots:=r } /\
   R (.ok (.ret (.ref (s.heap.push (NS k l)).objs.size))) { s with heap:=(s.heap.push (NS k l)).push { cls:=.type "enumerate",data:=.fields #[.none,.bool false,.ref s.z,rawInt 0,.none,.none] } }):=
 .of_wp λq w A R s b=>by
  obtain⟨D,g,d,F,os⟩:=s;obtain⟨o,b⟩:=b;have U:=sub_enumerate;have O:kH k (Shared.heap ⟨D,g,d,F,os⟩) l a:=by cases k<;>exact⟨_,o,rr,n,rr⟩
  wp_walk using wpAny_loadPart' o;refine wpAny_stack_any λK=>wY ?_;split
  .rename_i c _ _ _ _ _;cases (c == Value.type _)
   .wp_walk using wpAny_loadPart' o,nO O;exact⟨_,rr,b⟩
   .wp_walk using wpAny_loadPart' o,nO O;exact⟨_,rr,b⟩
  .wp_walk using wpAny_loadPart' o,nO O;exact⟨_,rr,b⟩
section
variable {prog:Program}{w:World}{A:Around}{E:QV}{s:Shared}
def J9 (U:kH k s.heap l d)
  (q:∀r,IsEnum r (s.z+1) s.z 0 .none->k6 k r s.z l 0->(∀b o,s.heap.get? b=some o->r.get? b=some o)->Q (.ref (s.z+1)) { s with heap:=r }):
  wpAny (model prog w) A (call (.type "enumerate") [.ref l]) Q E s:=by
 have R:∃(M:Option Addr)(a:Array _)(n:Nat),s.heap.get? l=some { cls:=.type (sqT k),dict:=M,data:=.seq d n,slots:=a }:=by
  cases k<;>(obtain⟨⟨c,M,X,a⟩,D,S,n,V⟩:=U;subst S;subst V;exact⟨M,a,n,D⟩)
 obtain⟨M,a,n,D⟩:=R;refine callType_new PySem.F.called_enumerate q9 (PySem.F.typeCall_enumerate_1 _) (PySem.F.newCall_enumerate_1 _) (λK=>PySem.F.args_object_init_2 K _) PySem.F.entry_enumerate_new (z4 k l d n M a) ⟨D,?_⟩;have P:(s.heap.push (NS k l)).objs.size=s.z+1:=Heap.size_push ..;have O:((s.heap.push (NS k l)).push { cls:=.type "enumerate",data:=.fields #[.none,.bool false,.ref s.z,rawInt 0,.none,.none] }).get? _=some _:=vY _ rr;have W:((s.heap.push (NS k l)).push { cls:=.type "enumerate",data:=.fields #[.none,.bool false,.ref s.z,rawInt 0,.none,.none] }).get? _=some _:=vZ _ (vY _ (by cases k<;>rfl))
 rw[P]at O;rw[P];refine⟨⟨_,O,rr⟩,q _ O ?_ λb o e=>vZ _ (vZ _ e)⟩;cases k<;>exact⟨_,W,rr,rr⟩
def SK (b:A.handled=none)z l(M:l≠z)c:Draws prog w A z [z,l] c.size (λi v=>c[i]? = some v) (λi h=>k6 k h z l i/\kH k h l c) where
 live:=λi h r=>let ⟨o,e,_⟩:=r.1.ob;⟨o,e⟩
 frame:=λi h D r U=>⟨r.1.upon λo=>U z C_ o,r.2.upon λo=>U l C_ o⟩
 item:=λi s Q E F r q=>fZ r.1 r.2 (v:=c[i]) (by simp ) λD O a=>q _ D _ (by simp ) ⟨O,r.2.upon λo=>a.extBut _ _ M⟩ a
 done:=λs Q E r=>jq b r.1 r.2 H9
def SM (O:A.handled=none)c l(a)n(r:a[n]? = none):Draws prog w A c [c,l] n (λy y=>True) (λi h=>(k6 k h c l i/\kH k h l a)/\i=n) where
 live:=λi h b=>let ⟨o,e,_⟩:=b.1.1.ob;⟨o,e⟩
 frame:=λi h D b M=>⟨⟨b.1.1.upon λo=>M c C_ o,b.1.2.upon λo=>M l C_ o⟩,b.2⟩
 item:=λi s Q E z b q=>absurd b.2 (vS z)
 done:=λs Q E b=>jq O b.1.1 b.1.2 r
end
noncomputable def Ite (K:Frag)(k:Bool)(a:Addr):It:=
  ⟨λi H=>∃b x,lH k K H a b/\b[i]? = some x,
   λi H v c=>∃T x,v=.ref T/\H T=none/\c=upd H T (.tup [.int i,x])/\∀b,lH k K H a b->b[i]? = some x,
   λi H=>∃b,lH k K H a b/\b.length<=i⟩
def G1 {P:Program}{w:World}{K:Frag}{es:QD}{C:Nat}{pt:Pos}{k:Bool}{a e S:Addr}(U:e≠S)(f:a≠e)(g:a≠S):
  Turn P w K (.Tuple es C pt) (Ite K k a) [e,S] e (λi h=>(∃M,IsEnum h e S i M)/\k6 k h S a i) where
 mem:=C_
 obj:=λi h V b R=>by
  obtain⟨⟨M,W⟩,O⟩:=V;simp at R;rcases R with rfl|rfl
  .simp_all
  .exact O.ob
 keep:=λi h T V c=>by
  obtain⟨⟨M,W⟩,O⟩:=V;exact⟨⟨M,c e C_ _ W⟩,O.upon λo q=>c S C_ o q⟩
 item:=by
  intro X j Y l hc i ag s σ H E I Q V m;subst j Y l;refine cX λ_ g'=>?_;obtain⟨⟨M,W⟩,O⟩:=V;obtain⟨xs,x,d,hx⟩:=m;obtain⟨Z,n,p,D⟩:=d.vals I;obtain⟨u,hu,ru⟩:=n.get hx;apply g';have fresh:=I.hok.fresh (vT _);have r:i<Z.toArray.size:=by rw[vH];exact(vV hu).1
  have B:e≠s.z:=vS (vX W);have t:S≠s.z:=by obtain⟨o,q,_⟩:=O.ob;exact vS (vX q)
  refine wpAny_pyNext_enum_itemD (SK (A:=X.A.in1) (I.ok.hd hc) S a g Z.toArray) W ⟨O,p⟩ r U (by simp[U,f.symm]) λv T tk hv F G J hsz hk=>?_;have ev:v=u:=by
   simp_all
  subst ev;refine⟨_,rr,wpAny_letOwnedTupleGo_enum F λh2 L s2=>?_⟩;have y:Heap.SameBut e T h2:=s2;refine⟨.ref s.z,upd H s.z (.tup [.int i,x]),D1 (s:=s) (t':=tk+1) I Q (λb o R q=>y.extBut _ _ (λz=>R (by simp[z])) (hk b o (λz=>R (by simp[z])) (λz=>R (by simp[z])) q)) (vT _) ⟨by show 2<=sizeLine;decide,[.int i tk,v],.cons ⟨tk,rr⟩ (.cons ru .nil),⟨_,y.extBut _ _ B.symm J,rr,_,rr⟩⟩,rr,⟨_,x,rr,fresh,rr,λzs hq=>by rw[lH.inj I hq d];exact hx⟩,?_,λb R=>?_⟩
  .exact⟨⟨_,by have:=L;exact this⟩,G.1.upon λo q=>y.extBut _ _ U.symm q⟩
  .have N:b≠s.z:=by
    simp at R;rcases R with rfl|rfl
    .exact B
    .exact t
   rw[a8 N];exact(Q b R).1
 done:=by
  intro X j Y l hc i ag s σ H E I Q V m;subst j Y l;refine cX λ_ g'=>?_;obtain⟨⟨M,W⟩,O⟩:=V;obtain⟨xs,d,hl⟩:=m;obtain⟨Z,n,p,D⟩:=d.vals I;apply g';have n1:=n.length;refine wpAny_pyNext_enum_endD (SM (A:=X.A.in1) (I.ok.hd hc) S a Z.toArray i N8) W ⟨⟨O,p⟩,rr⟩ λT hk=>⟨rr,?_⟩;exact lI (t':=s.toks) I Q λb o R q=>hk b o (λz=>R (by simp[z])) q
 self:=λ_ _ _ _ _ V h=>let ⟨⟨_,W⟩,_⟩:=V;wpAny_pyIter_enum W h
section
variable {X:Cx}{a b e:Expr}{pos:Pos}{p:Pos}
noncomputable def wc (c:LD):LD:=c.mapIdx λi d=>.tup [.int i,d]
@[simp] def JB (c:FE):FA:=λk=>(c k).bind λx=>(gE x.1).map wc
def NZ {K:Frag}{N:Hp}{k:Bool}{l:Addr}{q:LV}{D:LD}(w:lH k K N l q)(F:IsL K N q D):mD K (Ite K k l) N (wc D):=by
 intro i V M;have W:=F.length;refine⟨λd z=>?_,λZ=>⟨q,w.same M,?_⟩⟩
 .unfold wc at z;rw[List.getElem?_mapIdx]at z;obtain⟨x,c,rfl⟩:=oY z;obtain⟨v,P,R⟩:=F.get c;refine⟨⟨q,v,w.same M,P⟩,λr h S=>?_⟩;obtain⟨T,g,rfl,f,rfl,f1⟩:=S;have O:=f1 q (w.same M);rw[P]at O;cases O;have U:=Ext.laid (o:=.tup [.int i,v]) M f;exact⟨_,U,.tup (iH.of av) (.cons (.int _) (.cons (R.mono U.bn) .nil))⟩
 simp_all[wc]
def Oa {W:QD}{i:Nat}{Z:Pos}{S:FE}(E:X.mg "enumerate" = none)(G:JE X a S)(j:Gl X "enumerate")(V:d4 a X.env):
  JI X (.Tuple W i Z) (.Call (.Name "enumerate" p) [a] [] pos) (JB S):=by
 intro ag s J H R I q;refine Call_ (jb I j E (s9:bootBuiltins "enumerate" = some (.type "enumerate")) (PyProof.Rows.callWith_type1 (bY (iJ G p8 V _ _ s J H (λP M=>∃(k:Bool)(l:Addr)(F:LV),P=[.ref l]/\lH k X.K M l F/\R (Ite X.K k l) M) I ?_) λF D ⟨P,M,c,m,n⟩=>?_) V rr))
 .refine cX λe g'=>?_;obtain⟨B,L,ds,o,r,O,q⟩:=q;apply g';refine eX O λt N O=>?_;refine eS O λxs d O=>?_;subst O;refine⟨B,L,[t.1],o,r,by simp[N],λP M Q f T=>?_⟩;cases T with
  |cons u v=>
   cases v
   obtain⟨w,Y,F,rfl,D,m1⟩:=wb u d;exact⟨w,Y,F,rr,D.same f.nh,q _ M Q f (NZ D m1)⟩
 .obtain⟨k,l,ws,rfl,h1,q⟩:=n;obtain⟨z,rfl,x⟩:=m.one;cases x
  obtain⟨its,A,g,C⟩:=h1.vals c;have WX:=g.lt;refine J9 g λh' h c2 y=>?_;refine wpAny_pyIter_enum h ⟨D.z+1,[D.z+1,D.z],_,_,M,rr,c.kept y,
   G1 (Nat.succ_ne_self _) (vS (lt_succ_of_lt WX)) (vS WX),⟨⟨_,h⟩,c2⟩,λb hb=>?_,q⟩
  have U:D.z<=b:=by
   grind
  exact c.fpOk U (c.hok.fresh U)
end
end DL
namespace DL
open PySem PySem.Spec PyProof.Rows
set_option tactic.hygienic true in
def G2 (t)a n:(relayAll t a n).2.1.led=t.led:=by
 unfold relayAll;split
 .rename_i b M h;refine eX h λc _ h=>?_;cases h
  dsimp ;split<;>rfl
 .rfl
set_option tactic.hygienic true in
def z8 (t)a n(b:t.plain=false):(relayAll t a n).2.1.plain=false:=by
 unfold relayAll;split
 .rename_i c M h;refine eX h λk _ h=>?_;cases h
  dsimp ;split
  .exact b
  .rfl
 .rfl
def Ob (t)a(h)x:(layNew t a h x).2.1.led=t.led:=by
 unfold layNew;split
 .dsimp [SetTable.orStandIn];repeat' (first|rfl|split)
 .rfl
structure TabT (w:World)(es:Array (Int×Value))(t:SetTable):Prop where
 fits:t.fits es.size=true
 led:t.led = !w.params.followText "set-order"
 plain:es.size≠0->t.plain=false
def jI (b:Program)(w:World)(h:Heap)(a:Addr)(M:LS):Prop:=
 ∃o c O t,h.get? a=some o/\o.ExactSet/\o.data=.set c O t/\ElemsOf (PySem.strKind b w) c.toList/\(c.toList.map (λe=>strOf e.2)).Perm M/\M.Nodup/\M.length<scanBound/\TabT w c t
noncomputable def jJ (M:LS)(x:Str):LS:=if x∈M then M else M++[x]
theorem JD (M)x:(jJ M x).length<=M.length+1:=by unfold jJ;split<;>simp
theorem z9 (h:Value.isStrOf k v=true):strOf v=k:=by obtain⟨t,rfl⟩:=Value.isStrOf_shape h;rfl
section
variable {prog:Program}{w:World}{A:Around}{E:QV}{s:Shared}
def we {a:Array (Int×Value)}(M:ElemsOf (PySem.strKind prog w) a.toList)(o:(a.toList.map (λe=>strOf e.2)).Perm O)k:k∈O ↔ ∃e∈a.toList,(PySem.strKind prog w).is k e.2=true:=by
 rw[<-o.mem_iff,List.mem_map];constructor
 .rintro⟨e,b,rfl⟩;obtain⟨⟨q,c,z⟩,z⟩:=M e b;have U:Value.isStrOf q _=true:=c;grind[z9]
 .rintro⟨e,b,c⟩;exact⟨e,b,z9 c⟩
def zF {g:Bool->Sem Unit}(F:∀(b:Bool)(c:Shared)(r:Unit->Shared->Prop),r () c->wpAny (model prog w) A (g b) r E c)
  {a:Addr}{o:Obj}{Z:Array (Int×Value)}{G:Nat}{t:SetTable}(u:s.heap.get? a=some o) (v:o.ExactSet) (W:o.data=.set Z G t)
  {M:Array (Int×Value)}{O:SetTable}{f:LS}(x:ElemsOf (PySem.strKind prog w) M.toList) (l:(M.toList.map (λe=>strOf e.2)).Perm f) (X:f.Nodup)
  (K:f.length<scanBound) (m:O.fits M.size=true) (y:O.led = !w.params.followText "set-order") (z:O.plain=false) {U:Bool}{R:Option Bool->Shared->Prop}
  (h:∀S,Heap.SameBut a s.heap S->jI prog w S a f->R (some true) { s with heap:=S }):
  wpAny (model prog w) A (do
    storeSet a M O
    if(!U && O.tooFull)=true then do
      g (relayAll O M (SetTable.grown M.size)).2.2
      storeSet a (relayAll O M (SetTable.grown M.size)).1 (relayAll O M (SetTable.grown M.size)).2.1
      pure (some true)
     else pure (some true)) R E s:=by
 have i:M.size=f.length:=by rw[<-l.length_eq,vI,vG]
 refine wX (wpAny_storeSet_of u W ?_ (fits_of_scanBound (by rw[i];exact K)));have n:=(by
  have:=Heap.get?_update_self (Obj.putSet _ O) u (by rw[putSet_of M O W];rfl);rw[putSet_of _ O W]at this;exact this);have B:=vW s.heap a (Obj.putSet M O);split
 .have P:=relayAll_perm O M (SetTable.grown M.size);have j:=relayAll_fits O M (SetTable.grown M.size);have C:=G2 O M (SetTable.grown M.size);have k:=z8 O M (SetTable.grown M.size) z;generalize H:relayAll O M _=Rl at P j C k |-;obtain⟨d,D,I⟩:=Rl;have p:=x.perm P;have V:d.size=M.size:=by rw[<-vG,P.length_eq,vG]
  refine wX (F _ _ _ ?_);refine wX (wpAny_storeSet_of n rr ?_ (fits_of_scanBound (by rw[V,i];exact K)));have q:=(by
   have:=Heap.get?_update_self (Obj.putSet _ D) n (by rw[putSet_of d D rr];rfl);rw[putSet_of _ D rr]at this;exact this);exact wY (h _ (B.trans (vW _ a _)) ⟨_,d,_,D,q,v,rr,p,(P.map _).trans l,X,K,j,C.trans y,λY=>k⟩)
 .exact wY (h _ B ⟨_,M,_,O,n,v,rr,x,l,X,K,m,y,λY=>z⟩)
def BX {a:Addr}{d:LS}{k:Str}{Y:Tok}{Q:Bool->Shared->Prop}(v:jI prog w s.heap a d)(I:d.length+1<scanBound)
  (h:∀b X,Heap.SameBut a s.heap X->jI prog w X a (jJ d k)->Q b { s with heap:=X }):
  wpAny (model prog w) A (setAddHashed a (.str k Y) ((PySem.strKind prog w).hash k)) Q E s:=by
 have hS0:=v;refine cX λ_ g'=>?_;obtain⟨o,es,R,t,n,B,hd,g,M,nd,hb,hf,C,S⟩:=v;apply g';have D:=strKind_is prog w k Y;have sz:es.size=d.length:=by rw[<-M.length_eq,vI,vG]
 refine wpAny_holding (wX (wpAny_setState_of n hd hf ?_));dsimp only;rw[byScan_of (x:=.str k Y) rr (by rw[sz];exact hb) g];simp only[↓reduceIte];unfold setAddByScan;refine wX ?_;refine wX (wpAny_rule ?_);refine wX (wpAny_setScan_of D n hd hf g ?_);cases J:List.findIdx? _ es.toList with
 |some j=>
  dsimp only;obtain⟨hj,q,_⟩:=List.findIdx?_eq_some_iff_getElem.mp J;have hm:k∈d:=(we g M k).mpr ⟨es.toList[j],getElem_mem hj,q⟩;refine wY (wY ?_);simp_all[jJ,Heap.SameBut.refl]
 |none=>
  dsimp only;have hm:k∉d:=λz=>by
   obtain⟨e,he,hp⟩:=(we g M k).mp z;grind
  have K:jJ d k=d++[k]:=by unfold jJ;rw[if_neg hm]
  have r:∀(b:Bool){c:Shared}{i:Unit->Shared->Prop},i () c->wpAny (model prog w) A (match b with|true=>rule "set.scan.the-table-gave-way" | false=>pure ()) i E c:=
   λb c i Z=>by cases b<;>first|exact wY Z|exact wpAny_rule Z
  have O:=layNew_perm t es ((PySem.strKind prog w).hash k) (.str k Y);have U:=layNew_fits t es ((PySem.strKind prog w).hash k) (.str k Y);have p:=Ob t es ((PySem.strKind prog w).hash k) (.str k Y);generalize T:layNew t es ((PySem.strKind prog w).hash k) (.str k Y)=L at O U p |-;obtain⟨u,V,W,N⟩:=L;dsimp only at O U p |-;rw[Array.toList_push]at O;have F:=(g.push D rr).perm O;have G:(u.toList.map (λe=>strOf e.2)).Perm (d++[k]):=(O.map _).trans (by rw[uW];exact M.append_right _);have l:(d++[k]).Nodup:=by
   rw[nodup_append];refine⟨nd,H9,λx hx y hy=>?_⟩;rw[mem_singleton]at hy;subst hy;exact λz=>hm (z ▸ hx)
  have hb1:(d++[k]).length<scanBound:=by rw[uZ];exact I
  refine wX (r _ ?_);have H:=λX f m=>h true X f (by rw[K];exact m);split
  .refine wX ?_;refine wY ?_;refine zF ?_ n B hd F G l hb1 ?_ ?_ ?_ ?_
   .intro b c i Z;cases b<;>first|exact wY Z|exact wpAny_rule Z
   .exact SetTable.fits_plain_off U
   .exact p.trans C
   .rfl
   .intro X f m;dsimp only;exact wY (H X f m)
  .rename_i P;refine wX (wY ?_);simp only[↓reduceIte];refine zF ?_ n B hd F G l hb1 U (p.trans C) (by simpa using P) ?_
   .intro b c i Z;cases b<;>first|exact wY Z|exact wpAny_rule Z
   .intro X f m;dsimp only;exact wY (H X f m)
end
def ga (a:LS):LS:=a.foldl jJ []
def sn (h:M.Nodup)x:(jJ M x).Nodup:=by
 grind[jJ]
def nU:y∈jJ M x↔y∈M\/y=x:=by
 unfold jJ;split
 .rename_i a;exact⟨.inl,λz=>z.elim id λe=>e ▸ a⟩
 .simp
def xU (a:LS):∀M:LS,(a.foldl jJ M).length<=M.length+a.length:=by
 induction a with
 |nil=>simp
 |cons x r O=>grind[JD]
def nV a:(ga a).length<=a.length:=by simpa [ga]using xU a []
def G3 (a)x:ga (a++[x])=jJ (ga a) x:=by simp[ga]
theorem StrsAre.at {a:LU}{b:LS}(h:StrsAre a b):∀(i:Nat)v,a[i]? = some v->∃x t,v=.str x t/\b[i]? = some x:=by
 induction h with
 |nil=>intro i v h;simp at h
 |cons x t _ M=>intro i v h;cases i with
  |zero=>simp at h;exact⟨x,t,h.symm,rr⟩
  |succ i=>exact M i v h
def jI.at (x:jI d w h a U)(k:∀o,h.get? a=some o->e.get? a=some o):jI d w e a U:=by
 obtain⟨o,b,M,t,O,r⟩:=x;exact⟨o,b,M,t,k o O,r⟩
section
variable {prog:Program}{w:World}{A:Around}{R:Result->Shared->Prop}{I:Addr}{fp wr:List Addr}{G:Array GenState->Array GenState->Prop}{n:Nat}{P:Nat->Value->Prop}{St:Nat->Shared->Prop}
def xV (W:WalksS prog w A.in1 I fp wr G n P St)(S:Addr)(U:S∉fp)(K:LS)(L:K.length=n)
  (m:∀i v,P i v->∃x t,v=.str x t/\K[i]? = some x) (V:n+1<scanBound):
  ∀(k i:Nat)(s:Shared),n - i=k->i<=n->St i s->jI prog w s.heap S (ga (K.take i)) ->
   (∀D,Moved (S::wr) G s D->jI prog w D.heap S (ga K)->R (.ok (.ret .none)) D) ->
   codeAny (model prog w) A (.builtin "set.update.loop" ⟨[.ref S,.ref I],[]⟩) R s:=by
 have a:S∉wr:=λh=>U (W.sub _ h);have M:∀b∈wr,b∈S::wr:=λb V=>mZ _ V;intro k;induction k with
 |zero=>
  intro i s C E O j Z;have p:i=n:=N9
  subst p;refine codeAny_builtin PyProof.Rows.F.entry_set_update_loop ?_;refine wX (W.done s _ _ O λD X=>?_);refine wY (Z D (X.mono M) ?_);rw[List.take_of_length_le N9]at j;exact j.at λo e=>X.heap S _ a e
 |succ k q=>
  intro i s C E O j Z;have l:i<n:=N9
  refine codeAny_builtin PyProof.Rows.F.entry_set_update_loop ?_;refine wX (W.item i s _ _ l O λv D r c X=>?_);obtain⟨x,t,rfl,hx⟩:=m i v r;have u:jI prog w D.heap S (ga (K.take i)):=j.at λo e=>X.heap S _ a e;refine wX (wpAny_holding ?_);unfold setAdd;refine wpAny_holding ?_;refine wX ((PySem.strKind prog w).pyHash (k:=x) (strKind_is prog w x t) ?_);have H:(ga (K.take i)).length+1<scanBound:=by have:=nV (K.take i);rw[length_take]at this;lia
  refine BX (s:={ D with toks:=D.toks+1 }) u H λb J d B=>?_;have y:jI prog w J S (ga (K.take (i+1))):=by
   simp_all[take_add_one,G3]
  refine wY ⟨plainId_quiet PyProof.Rows.F.plain_set_update_loop _,q (i+1) _ N9 l (W.frame _ D _ _ c (le_succ _) λb V o e=>?_) y λz f g=>?_⟩
  .rw[d.2 b (λh:b=S=>U (by rw[<-h];exact V))];exact e
  .refine Z z (Moved.trans W.gtrans ((X.mono M).then_heap (le_succ _) λb o V e=>?_) f) g;rw[d.2 b (λh:b=S=>V (by rw[h];exact mX))];exact e
end
section
variable {prog:Program}{w:World}{A:Around}{E:QV}{s:Shared}
noncomputable abbrev eU (w:World):Obj:={ cls:=.type "set",dict:=none,data:=.set #[] 0 (.fresh 0 0 (!w.params.followText "set-order")) }
def zG (a:Value)
  (h:Q₁ (.ref s.z) { s with heap:=s.heap.push (eU w) }):
  codeAny (model prog w) A (.call (.builtin "set.__new__") ⟨[.type "set",a],[]⟩) (wants Q₁ E) s:=by
 refine codeAny_of_tree ?_;refine wX (wpAny_of_eq (PySem.F.newCall_set_1 a) (wY ⟨plainId_quiet PySem.F.plain_set_new _,codeAny_builtin PySem.F.entry_set_new ?_⟩));have M:=sub_set_self;wp_walk;refine wpAny_askSetting (wY ?_);refine wX (wpAny_alloc (wY ?_));exact wY h
set_option maxHeartbeats 3200000 in
def sr
  (hh:A.handled=none) (hl:s.heap.IsList l items) (hi:StrsAre items.toList ss) (hb:items.size+1<scanBound)
  (h:∀(h':Heap)(tk:Nat),jI prog w h' s.z (ga ss) ->
   (∀b o,b<s.z->s.heap.get? b=some o->h'.get? b=some o)->Q (.ref s.z) { s with heap:=h',toks:=tk }):
  wpAny (model prog w) A (call (.type "set") [.ref l]) Q E s:=by
 obtain⟨c,tl,I⟩:=called_set.mro;have J:=called_set.made;have K:=called_set.sub;refine wpAny_call (codeAny_of_tree ?_);show wpAny _ _ (callAny (.type "set") _) _ _ _;refine wY ⟨Code.quiet_builtin _ s9,codeAny_builtin PySem.F.entry_type_call ?_⟩;rw[Around.under_plain (weight_type_call_type "set" [.ref l] []) rr];have h1:=called_set.notType;have h2:=called_set.canCreate;have L:=PySem.F.typeCall_set_1 (.ref l);have N:ss.length=items.size:=by have:=hi.strs;grind
 repeat (any_goals (first|assumption|wp_step))
 refine codeAny_mono (zG (.ref l) (E:=E) (Q₁:=λobj U=>obj=.ref s.z/\U={ s with heap:=s.heap.push (eU w) }) ⟨rr,rr⟩) λr U g=>?_;cases r with
 |error e=>exact g
 |ok fl=>
  cases fl with
  |ret obj=>
   obtain⟨rfl,rfl⟩:=g;have y:(s.heap.push (eU w)).get? s.z=some (eU w):=vY _ rr;have P:Shared.TypeIs { s with heap:=s.heap.push (eU w) } (.ref s.z) "set":=⟨_,y,rr⟩;have S:=called_set.init.lookup;have T:=called_set.init.bind (.ref s.z);repeat (any_goals (first|assumption|wp_step))
   refine codeAny_mono (codeAny_call_builtin (R:=wants (λr a=>r=.none/\∃h' tk,a={ s with heap:=h',toks:=tk } /\
     jI prog w h' s.z (ga ss) /\
     (∀b o,b<s.z->s.heap.get? b=some o->h'.get? b=some o)) E) called_set.init.plain PySem.F.entry_set_init (check_set_init_1 P ?_)) λf a M=>?_
   .obtain⟨V,B,C,D,G⟩:=hl;obtain⟨W,X,Y,O⟩:=V;simp only at C G;subst C;subst G;have j:(s.heap.push (eU w)).get? l=some { cls:=.type "list",dict:=X,data:=.seq items D,slots:=O }:=vZ _ B;have Z:=PySem.F.sub_list_set;have af0:=PySem.F.sub_list_frozenset;have FU:(Value.type "list" == Value.type "dict")=false:=I9
    have H:(s.heap.push (eU w)).IsList l items:=⟨_,j,rr,D,rr⟩;unfold Builtin.«set.__init__» noKeywords Builtin.Frozenset.updateFrom;generalize k:pyIter=PI;wp_walk;subst k;refine wpAny_pyIter_list H ?_;refine wX (wpAny_runValue ?_);have hlS:l<s.z:=vX B;have m:A.in1.in1.in1.handled=none:=by simp[hh]
    have n:l≠(s.heap.push (eU w)).objs.size:=by
     simp_all[vS,lt_succ_of_lt]
    have ZU:s.z∉[(s.heap.push (eU w)).objs.size,l]:=by
     simp_all[ne_of_gt]
    have Ut:∀(i:Nat)(v:Value),items[i]? = some v->∃x t,v=.str x t/\ss[i]? = some x:=λi v hv=>
     StrsAre.at hi i v (by simp_all)
    refine xV ((Walks.list m _ l n items).toS) s.z
     ZU ss N Ut hb (items.size - 0) 0 _ N9 (uN _)
     ⟨⟨_,vY _ rr,rr,rr⟩,(H.push _)⟩ ?hS0 ?hR
    case hS0=>
     have p:((s.heap.push (eU w)).push { cls:=.type "list_iterator",data:=.fields #[.ref l,.int 0 0] }).get? s.z
       = some (eU w):=vZ _ y
     exact⟨_,#[],0,_,p,⟨rr,rr,rr⟩,rr,λe he=>by simp at he,List.Perm.refl _,nodup_nil,(by show(0:Nat)<scanBound;decide),rr,rr,λz=>absurd rr z⟩
    case hR=>
     intro s' hm q
     obtain⟨h',g',d',Zl,u⟩:=s'
     have eg:g'=s.gens:=hm.gens
     have ed:d'=s.drawn:=hm.drawn
     have eo:u=s.os:=hm.os
     subst eg;subst ed;subst eo
     show wpAny _ _ _ _ _ _
     refine wY ?_
     show wpAny _ _ (ret Value.none) _ _ _
     refine wY ⟨rr,h',Zl,rr,q,λb o hb e=>?_⟩
     have hb1:b≠s.z:=vS hb
     have hb2:b≠(s.heap.push (eU w)).objs.size:=by
      simp_all[vS,lt_succ_of_lt]
     exact hm.heap b o (by simp_all) (vZ _ (vZ _ e))
   .cases f with
    |error e=>exact M
    |ok d=>
     cases d with
     |ret r=>
      obtain⟨rfl,h',tk,rfl,q,HU⟩:=M;repeat (any_goals (first|assumption|wp_step))
      exact h _ _ q HU
     |_=>exact M.elim
  |_=>exact g.elim
end
open Sem (wp)
section
variable {M:Model}{A:Around}{E:QV}{s:Shared}
def Oc (a:n≠0)(h:∀k d,k<n->Q k { s with drawn:=d }):wpAny M A (choose e n) Q E s:=by
 intro O p U;refine⟨a,?_⟩;have:=h _ (s.drawn.bump e) (Nat.mod_lt (M.w.draws e (s.drawn.get e)) (Nat.pos_of_ne_zero a));assumption
end
def nW {a:Type}:∀(l:List a)(i:Nat),i<l.length->(l.eraseIdx i).length=l.length - 1:=by grind
theorem mG {b:Type}:∀l i(x:b),l[i]? = some x->(x::l.eraseIdx i).Perm l
 |[],i,x,h=>by simp at h
 |a::l,0,x,h=>by simp_all
 |a::l,i+1,x,h=>(List.Perm.swap a x _).trans ((mG l i x h).cons a)
theorem D2 {o:Type}:∀(n:Nat)(b:List o)(s:Shared)Q,b.length=n->(∀c d,c.Perm b->Q c { s with drawn:=d })->wpAny M A (drawOrder n b) Q E s
 |0,b,s,Q,a,h=>by
  have:=List.eq_nil_of_length_eq_zero a;subst this;exact wY (h [] _ (List.Perm.refl _))
 |n+1,[],s,Q,a,h=>by simp at a
 |n+1,x::r,s,Q,a,h=>by
  refine wX (Oc H9 λk d q=>?_);obtain⟨y,w⟩:∃y,(x::r)[k]? = some y:=⟨_,vU q⟩;rw[w];refine wX (D2 n _ _ _ (by rw[nW _ _ q,a];rfl) λc D z=>wY (h _ _ ((z.cons y).trans (mG _ _ _ w))))
theorem D3 {b:Type}next:∀fuel k(left:List b)a,left.length=fuel->(pickOrder.go next fuel k left a).toList.Perm (a.toList++left)
 |0,k,left,a,q=>by
  simp_all[pickOrder.go]
 |fuel+1,k,left,a,q=>by
  unfold pickOrder.go;obtain⟨y,o⟩:∃y,left[next k % left.length]? = some y:=⟨_,vU (Nat.mod_lt _ N9)⟩;rw[o];refine(D3 _ _ _ _ _ (by rw[nW _ _ (Nat.mod_lt _ N9)];simp_all)).trans ?_;rw[Array.toList_push,append_assoc];exact(mG _ _ _ o).append_left _
def G4 {b:Type}next(a:Array b):(pickOrder next a).toList.Perm a.toList:=by
 grind[D3,pickOrder]
def bx:Slot "set_iterator" "__next__" "set_iterator.__next__" :=
 .of (owner:="set_iterator") (n:="__next__") q9 s9 s9 s9
  (by first|exact .inl s9|exact .inr _) x8
def fF:entryFor table "set_iterator.__next__" = some Builtin.«set_iterator.__next__»:=entryFor_of_tree x8
def gu (a:Value):argsOk "set_iterator.__next__" ⟨[a],[]⟩:=x8
def mz:Slot "set_iterator" "__iter__" "set_iterator.__iter__" :=
 .of (owner:="set_iterator") (n:="__iter__") q9 s9 s9 s9
  (by first|exact .inl s9|exact .inr _) x8
def su:entryFor table "set_iterator.__iter__" = some Builtin.«dict_keyiterator.__iter__» :=
 entryFor_alias (id':="dict_keyiterator.__iter__") x8 rr s9 x8
def uI (a:Value):argsOk "set_iterator.__iter__" ⟨[a],[]⟩:=x8
noncomputable abbrev mH (M:Value)(i:Nat)(S:Addr)(n O:Nat):Obj:={ cls:=.type "set_iterator",data:=.fields #[M,.int i 0,.ref S,.int n 0,.int O 0] }
section
variable {prog:Program}{w:World}{A:Around}{E:QV}{s:Shared}{it S:Addr}{i ep:Nat}{o:Obj}{es:Array (Int×Value)}{t:SetTable}
def d6 (M:s.heap.get? it=some (mH O i S n ep)):s.TypeIs (.ref it) "set_iterator":=⟨_,M,rr⟩
def xW {k r:Nat}{x:Value}{Q:Option Value->Shared->Prop}(M:s.heap.get? it=some (mH (.int k 0) i S es.size ep))
  (U:s.heap.get? S=some o) (z:o.data=.set es ep t) (D:t.fits es.size=true)
  (a:∀(b:Around)(c:QV)(O:Option (Value×Nat)->Shared->Prop),O (some (x,r)) s->wpAny (model prog w) b (setNext S k i ep) O c s)
  (d:∀q,q.get? it=some (mH (.int r 0) (i+1) S es.size ep)->Heap.SameBut it s.heap q->Q (some x) { s with heap:=q }):
  wpAny (model prog w) A (pyNext (.ref it)) Q E s:=by
 refine wX (wpAny_attempt (wpAny_callSpecial?_slot (d6 M) bx
  (wpAny_call_entry bx (d6 M) fF ?_ (x8))))
 show wpAny _ _ (fieldsOf _>>=_) _ _ s;refine wX (wpAny_fieldsOf M rr ?_);refine wX (wpAny_setEntries_of U z D ?_);rw[if_neg H9];refine wX (a _ _ _ ?_);refine wX (wpAny_setField_rec M C_ λV e F=>?_);refine wX (wpAny_setField_rec e C_ λK P R=>?_);exact wY ⟨x,rr,wY (d K (by simpa [rawInt,mH]using P) (F.trans R))⟩
def uJ {T:Addr}{c:LN}{p:Nat}{x:Int×Value}{F:Nat}{Q:Option Value->Shared->Prop}(M:s.heap.get? it=some (mH (.ref T) i S es.size ep))
  (a:s.heap.get? T=some (seqObj "tuple" (c.map λ(p:Nat)=>Value.int p 0).toArray F))
  (U:s.heap.get? S=some o) (q:o.data=.set es ep t) (r:t.fits es.size=true) (K:c[i]? = some p) (hx:es[p]? = some x)
  (b:∀k,k.get? it=some (mH (.ref T) (i+1) S es.size ep)->Heap.SameBut it s.heap k->Q (some x.2) { s with heap:=k }):
  wpAny (model prog w) A (pyNext (.ref it)) Q E s:=by
 refine wX (wpAny_attempt (wpAny_callSpecial?_slot (d6 M) bx
  (wpAny_call_entry bx (d6 M) fF ?_ (x8))))
 show wpAny _ _ (fieldsOf (.ref it)>>=_) _ _ s;refine wX (wpAny_fieldsOf M rr ?_);refine wX (wpAny_setEntries_of U q r ?_);rw[if_neg H9];refine wX (wpAny_seqItems a rr ?_);have O:(c.map λ(p:Nat)=>Value.int p 0).toArray[(i:Int).toNat]? = some (.int p 0):=by simp[K]
 dsimp only;rw[O];have P:wpAny (model prog w) A.in1 (setNextDrawn S (p:Int).toNat (ep:Int).toNat) (λy D=>y=x.2/\D=s) (λv v=>False) s:=by
  refine wX (wpAny_setState_of U q r ?_);simp_all[wY]
 refine wX (wpAny_mono P (λy D R=>?_) λv v z=>z.elim);obtain⟨rfl,rfl⟩:=R;refine wX (wpAny_setField_rec M C_ λV O W=>?_);exact wY ⟨_,rr,wY (b V (by simpa [rawInt,mH]using O) W)⟩
def zH (M:s.heap.get? it=some (mH O i S n ep))(h:Q (.ref it) s):wpAny (model prog w) A (pyIter (.ref it)) Q E s:=by
 exact wpAny_pyIter_slot (d6 M) mz (wpAny_call_entry mz (d6 M) su (wY ⟨_,rr,"set_iterator",_,d6 M,bx.lookup,h⟩) (uI _))
end
section
variable {prog:Program}{w:World}{A:Around}{E:QV}{s:Shared}{it S:Addr}{i k ep:Nat}{o:Obj}{es:Array (Int×Value)}{t:SetTable}
def wj (M:s.heap.get? S=some o)(a:o.data=.set es ep t)(b:t.fits es.size=true)(c:w.params.followText "set-order" = true)
  (h:Q (((pickOrder (w.params.setOrder S ep) es)[i]?).map λe=>(e.2,k)) s):wpAny (model prog w) A (setNext S k i ep) Q E s:=by
 refine wX (wpAny_setState_of M a b ?_);show wpAny _ _ (if w.params.followText _=true then _ else _) _ _ _;rw[if_pos c,if_neg H9];refine wX (wX (wpAny_setState_of M a b ?_));show wpAny _ _ (if w.params.followText _=true then _ else _) _ _ _;rw[if_pos c];exact wX (wpAny_askSetting (wY (wY h)))
def sv (M:s.heap.get? S=some o)(a:o.data=.set es ep t)(b:t.fits es.size=true)(c:w.params.followText "set-order" = false)(q:t.led=true)(r:es.size<=1)
  (h:Q (match es[SetTable.below t.place k]?,t.place[SetTable.below t.place k]? with
   |some (_,x),some j=>some (x,j+1)
   |_,_=>none) s):wpAny (model prog w) A (setNext S k i ep) Q E s:=by
 refine wX (wpAny_setState_of M a b ?_);show wpAny _ _ (if w.params.followText _=true then _ else _) _ _ _;rw[if_neg (by rw[c];simp)];show wpAny _ _ (if(!t.plain && decide _)=true then _ else _) _ _ _;rw[if_neg (by simp_all)];show wpAny _ _ ((if(!t.led && !es.isEmpty)=true then unsupported _ else pure ())>>=_) _ _ _;rw[q];exact wY h
def wm (g:A.handled=none)(V:o.data=.set es ep t)(W:t.fits es.size=true)(c:S≠it)(F:LU)(j:F.length=es.size)(K:Nat->Nat)
  (d:∀i x,F[i]? = some x->∀(O:Around)(U:QV)(s:Shared)M,s.heap.get? S=some o->M (some (x,K (i+1))) s->wpAny (model prog w) O (setNext S (K i) i ep) M U s)
  (f:∀(O:Around)(U:QV)(s:Shared)M,s.heap.get? S=some o->M none s->wpAny (model prog w) O (setNext S (K es.size) es.size ep) M U s):
  Walks prog w A it [it,S] [it] es.size (λi v=>F[i]? = some v) (λi h=>h.get? it=some (mH (.int (K i) 0) i S es.size ep)/\h.get? S=some o) where
 sub:=λb D=>by simp at D;simp[D]
 frame:=λy y y r X=>⟨X it C_ _ r.1,X S C_ _ r.2⟩
 item:=λi s Q E l r a=>by
  obtain⟨x,hx⟩:∃x,F[i]? = some x:=⟨_,vU N9⟩;refine xW r.1 r.2 V W (λO U M q=>d i x hx O U s M r.2 q) λP R Z=>?_;exact a x P _ hx ⟨R,Z.extBut S _ c r.2⟩ λb u D e=>Z.extBut b u (λz=>D (by simp[z])) e
 done:=λs Q E r a=>by
  refine wX (wpAny_attempt (wpAny_callSpecial?_slot (d6 r.1) bx
   (wpAny_call_entry bx (d6 r.1) fF ?_ (gu _))))
  show wpAny _ _ (fieldsOf _>>=_) _ _ s;refine wX (wpAny_fieldsOf r.1 rr ?_);refine wX (wpAny_setEntries_of r.2 V W ?_);rw[if_neg H9];refine wX ((λO U M q=>f O U s M r.2 q) _ _ _ ?_);refine wX (wpAny_setField_rec r.1 H9 λK c F=>?_);refine wX ?_;refine wX (m:=firstArgMember _ _) (wpAny_of_eq q9 ?_);refine wpAny_newObj_type ?_ h8;refine wX (wpAny_handled ?_);rw[show A.in1.handled=none from g];refine wX (wY (wpAny_throw ?_));refine wX (wpAny_isInstance ⟨_,vY _ rr,rr⟩ isSubtype_stop ?_);exact wY ((λP R=>a P _ λb u D e=>R b u (λz=>D (by simp[z])) e) _ ((F.extBut.push _).push _))
 self:=λy y y y r a=>zH r.1 a
def BY {T:Addr}{r:LN}{nt:Nat}(Z:A.handled=none)(W:o.data=.set es ep t)(X:t.fits es.size=true)(U:S≠it)(a:T≠it)(F:r.Perm (List.range es.size)):
  Walks prog w A it [it,S,T] [it] es.size (λi v=>(r.map λp=>(es.getD p (0,.none)).2)[i]? = some v)
   (λi h=>h.get? it=some (mH (.ref T) i S es.size ep)/\h.get? S=some o/\h.get? T=some (seqObj "tuple" (r.map λ(p:Nat)=>Value.int p 0).toArray nt)) where
 sub:=λb D=>by simp at D;simp[D]
 frame:=λy y y q K=>⟨K it C_ _ q.1,K S C_ _ q.2.1,K T C_ _ q.2.2⟩
 item:=λi s Q E f q M=>by
  have O:r.length=es.size:=by rw[F.length_eq,length_range]
  obtain⟨p,hx⟩:∃p,r[i]? = some p:=⟨_,vU N9⟩;have c:=mem_range.mp (F.mem_iff.mp (vL hx));have d:es[p]? = some (es.getD p (0,.none)):=by simp_all
  refine uJ q.1 q.2.2 q.2.1 W X hx d λP R V=>?_;exact M _ P s.toks (by simp[hx]) ⟨R,V.extBut S _ U q.2.1,V.extBut T _ a q.2.2⟩ λb u D e=>V.extBut b u (λz=>D (by simp[z])) e
 done:=λs Q E q M=>by
  have O:r.length=es.size:=by rw[F.length_eq,length_range]
  refine wX (wpAny_attempt (wpAny_callSpecial?_slot (d6 q.1) bx
   (wpAny_call_entry bx (d6 q.1) fF ?_ (gu _))))
  show wpAny _ _ (fieldsOf _>>=_) _ _ s;refine wX (wpAny_fieldsOf q.1 rr ?_);refine wX (wpAny_setEntries_of q.2.1 W X ?_);rw[if_neg H9];refine wX (wpAny_seqItems q.2.2 rr ?_);have O:(r.map λ(p:Nat)=>Value.int p 0).toArray[(es.size:Int).toNat]? = none:=by simpa using (getElem?_eq_none N9)
  dsimp only;rw[O];refine wX (wpAny_setField_rec q.1 H9 λf c d=>?_);refine wX (wpAny_setField_rec c H9 λV O g=>?_);refine wX ?_;refine wX (m:=firstArgMember _ _) (wpAny_of_eq q9 ?_);refine wpAny_newObj_type ?_ h8;refine wX (wpAny_handled ?_);rw[show A.in1.handled=none from Z];refine wX (wY (wpAny_throw ?_));refine wX (wpAny_isInstance ⟨_,vY _ rr,rr⟩ isSubtype_stop ?_);exact wY ((λP R=>M P s.toks λb u D e=>R b u (λz=>D (by simp[z])) e) _ (((d.trans g).extBut.push _).push _))
 self:=λy y y y q M=>zH q.1 M
end
def BZ {b:Type}(a:Array b)(d:b):(List.range a.size).map (λp=>a.getD p d)=a.toList:=by
 apply ext_getElem?;intro i;by_cases h:i<a.size
 .simp_all
 simp_all
section
variable {prog:Program}{w:World}{A:Around}{E:QV}{s:Shared}
def wn (h:d=#[j]):SetTable.below d k=if j<k then 1 else 0:=by
 simp_all[SetTable.below,SetTable.below.go]
def JF {S:Addr}{f:LS}{Q:QV}(I:jI prog w s.heap S f)
  (n:∀(h':Heap)(d:Drawn)(it:Addr)(vs:LU)(fp:List Addr)(St:Nat->Heap->Prop),(∀a,a.handled=none->Walks prog w a it fp [it] f.length (λi v=>vs[i]? = some v) St)->St 0 h' ->
   (∀b u,s.heap.get? b=some u->h'.get? b=some u)->s.z<=it->(∀b∈fp,b=S\/s.z<=b)->vs.length=f.length->(vs.map strOf).Perm f->(∀v∈vs,∃x t,v=.str x t) ->
   Q (.ref it) { s with heap:=h',drawn:=d }):wpAny (model prog w) A (pyIter (.ref S)) Q E s:=by
 refine cX λ_ g'=>?_;obtain⟨o,V,c,t,U,J,W,K,hp,nd,hb,X,L,N⟩:=I;apply g';have T:V.size=f.length:=by rw[<-hp.length_eq,vI,vG]
 have D:S<s.z:=vX U;have g:s.TypeIs (.ref S) "set":=⟨_,U,J.1⟩;have P:∀e∈V.toList,∃x t,e.2=.str x t:=λe Z=>by
  obtain⟨⟨k,hk,_⟩,_⟩:=K e Z;obtain⟨t,q⟩:=Value.isStrOf_shape (show Value.isStrOf k e.2=true from hk);exact⟨k,t,q⟩
 refine wpAny_pyIter_slot g slot_set_iter (wpAny_call_entry slot_set_iter g ( entryFor_alias (id':="frozenset.__iter__") x8 rr s9 x8:entryFor table "set.__iter__" = some Builtin.«frozenset.__iter__») ?_ (PySem.F.args_set_iter_1 _));show wpAny _ _ (Builtin.Frozenset.sizeOf S>>=_) _ _ s;unfold Builtin.Frozenset.sizeOf;refine wX (wX (wpAny_setEntries_of U W X (wY ?_)));unfold setDrawn setsByText;refine wX (wX (wpAny_setState_of U W X ?_));dsimp only;refine wX (wX (wpAny_askSetting (wY (wY ?_))));show wpAny _ _ (if(!w.params.followText "set-order" && (!t.plain && decide (V.size > 1)))=true then _ else _) _ _ _;have G:(V.toList.map (·.2)).map strOf=V.toList.map (λe=>strOf e.2):=by rw[uP];rfl
 by_cases M:w.params.followText "set-order" = true
 .rw[if_neg (by rw[M];simp)];refine wX (wY ?_);refine wX (wpAny_setEpoch_of U W X ?_);have pp:=G4 (w.params.setOrder S c) V;have H:((pickOrder (w.params.setOrder S c) V).toList.map (·.2)).length=V.size:=by rw[vI,pp.length_eq,vG]
  refine wX (wpAny_newObj_type (wY ⟨_,rr,"set_iterator",_,⟨_,vY _ rr,rr⟩,bx.lookup,?_⟩));refine n _ s.drawn s.z ((pickOrder (w.params.setOrder S c) V).toList.map (·.2)) [s.z,S] (λi h=>h.get? s.z=some (mH (.int ((λ_=>0:Nat->Nat) i:Nat) 0) i S V.size c)/\h.get? S=some o) (λa l=>?_) ?_ (λb u e=>vZ _ e) (vT _) (λb hb=>?_) (H.trans T) ?_ ?_
  .rw[<-T];exact wm l W X (vS D) _ H (λ_=>0) (λi x hx a r s y Y h2=>wj Y W X M (by
    rw[vA,Array.getElem?_toList]at hx;obtain⟨e,Z,rfl⟩:=oY hx;rw[Z];exact h2)) (λa r s y Y h2=>wj Y W X M (by
    simp_all))
  .exact⟨vY _ rr,vZ _ U⟩
  .grind
  .grind
  grind
 .rw[not_eq_true]at M;have hl:t.led=true:=by rw[L,M];rfl
  by_cases Y:V.size<=1
  .rw[if_neg (by simp_all)];refine wX (wY ?_);refine wX (wpAny_setEpoch_of U W X ?_);refine wX (wpAny_newObj_type (wY ⟨_,rr,"set_iterator",_,⟨_,vY _ rr,rr⟩,bx.lookup,?_⟩));have R:t.place.size=V.size:=by
    simp_all[SetTable.fits]
   refine n _ s.drawn s.z (V.toList.map (·.2)) [s.z,S] (λi h=>h.get? s.z=some (mH (.int ((λi=>if i=0 then 0 else t.place.getD 0 0+1:Nat->Nat) i:Nat) 0) i S V.size c)/\h.get? S=some o) (λa l=>?_) ?_ (λb u e=>vZ _ e) (vT _) (λb hb=>?_) (by simp_all) (by rw[G];exact hp) ?_
   .rw[<-T];refine wm l W X (vS D) _ H9 (λi=>if i=0 then 0 else t.place.getD 0 0+1) (λi x hx a r s y z q2=>sv z W X M hl Y ?_) (λa r s y z q2=>sv z W X M hl Y ?_)
    .have hi:i<V.size:=by have:=(vV hx).1;simpa using this
     have B:i=0:=N9
     subst B;obtain⟨j,hj⟩:∃j,t.place=#[j]:=Array.size_eq_one_iff.mp N9;rw[if_pos rr,wn hj,if_neg N9];rw[vA,Array.getElem?_toList]at hx;obtain⟨e,Z,rfl⟩:=oY hx;rw[Z];simp only[hj]at q2 |-;simpa using q2
    .by_cases h0:V.size=0
     .have m:t.place=#[]:=Array.eq_empty_of_size_eq_zero N9;have C:V=#[]:=Array.eq_empty_of_size_eq_zero h0;rw[m,C];simpa using q2
     .obtain⟨j,hj⟩:∃j,t.place=#[j]:=Array.size_eq_one_iff.mp N9;rw[if_neg h0,wn hj];have:t.place.getD 0 0=j:=by rw[hj];rfl
      rw[this,if_pos N9,Array.getElem?_eq_none N9];exact q2
   .exact⟨vY _ rr,vZ _ U⟩
   .grind
   grind
  .have m:t.plain=false:=N N9;rw[if_pos (by simp_all)];refine wX (D2 V.size (List.range V.size) _ _ H9 λpl d pp=>?_);refine wX (wpAny_newTuple ?_ (by rw[vI,pp.length_eq,length_range,T];exact fits_of_scanBound hb));refine wX (wpAny_setEpoch_of (vZ _ U) W X ?_);refine wX (wpAny_newObj_type (wY ⟨_,rr,"set_iterator",_,⟨_,vY _ rr,rr⟩,bx.lookup,?_⟩));have hsz:(s.heap.push (seqObj "tuple" (pl.map λ(p:Nat)=>Value.int p 0).toArray 0)).objs.size=s.z+1:=size_push' _ _;have O:((pl.map λp=>(V.getD p (0,.none)).2)).Perm (V.toList.map (·.2)):=by
    have:=(pp.map λp=>V.getD p (0,Value.none)).map (·.2);rw[BZ]at this;rw[uP]at this;exact this
   refine n _ d _ (pl.map λp=>(V.getD p (0,.none)).2) [(s.heap.push (seqObj "tuple" (pl.map λ(p:Nat)=>Value.int p 0).toArray 0)).objs.size,S,s.z] (λi h=>h.get? (s.heap.push (seqObj "tuple" (pl.map λ(p:Nat)=>Value.int p 0).toArray 0)).objs.size=some (mH (.ref s.z) i S V.size c)/\h.get? S=some o/\h.get? s.z=some (seqObj "tuple" (pl.map λ(p:Nat)=>Value.int p 0).toArray 0)) (λa l=>?_) ?_ (λb u e=>vZ _ (vZ _ e)) ?_ (λb hb=>?_) ?_ ?_ ?_
   .rw[<-T];exact BY (nt:=0) l W X (by simp_all[vS,lt_succ_of_lt]) H9 pp
   .exact⟨vY _ rr,vZ _ (vZ _ U),vZ _ (vY _ rr)⟩
   .simp
   .grind
   .rw[O.length_eq,vI,vG,T]
   .exact((O.map strOf).trans (by rw[G])).trans hp
   .intro v hv;obtain⟨e,Z,rfl⟩:=vO (O.mem_iff.mp hv);exact P e Z
end
section
variable {prog:Program}{w:World}{A:Around}{E:QV}{s:Shared}
def zI (hh:A.handled=none)(j:jI prog w s.heap S N)
  (B:∀P R,(∀b u,s.heap.get? b=some u->P.heap.get? b=some u)->P.gens=s.gens->P.os=s.os->R.length=N.length->(R.map strOf).Perm N->(∀v∈R,∃x t,v=.str x t)->Q R P):
  wpAny (model prog w) A (collect (.ref S)) Q E s:=by
 have M:∀(Z:Shared),jI prog w Z.heap S N->Z.TypeIs (.ref S) "set":=λZ h=>by
  obtain⟨o,_,_,_,k,C,_⟩:=h;exact⟨o,k,C.1⟩
 have D:S<s.z:=by obtain⟨o,_,_,_,k,_⟩:=j;exact vX k
 have U:N.length<scanBound:=by obtain⟨_,_,_,_,_,_,_,_,_,_,h,_⟩:=j;exact h
 unfold collect;refine wX (wpAny_runValue (codeAny_builtin PySem.F.entry_proto_collect ?_));refine wX (wpAny_newObj_type ?_);refine wY ⟨plainId_quiet PySem.F.plain_list_iadd _,codeAny_builtin PySem.F.entry_list_iadd ?_⟩;show wpAny _ A.in1 (Builtin.List.listExtendWith (.ref s.z) (.ref S) (.ref s.z)) _ _ _;unfold Builtin.List.listExtendWith;have a:jI prog w (s.heap.push { cls:=.type "list",data:=.seq ([]:LU).toArray }) S N:=j.at λo e=>vZ _ e;refine wX (wpAny_typeOf (M _ a) ?_);have G:s.z≠S:=ne_of_gt D;have h1:Builtin.List.listSameRef (.ref s.z) (.ref S)=false:=by simp[Builtin.List.listSameRef,G]
 have h2:(Value.type "set" == Value.type "list")=false:=q9
 have h3:(Value.type "set" == Value.type "tuple")=false:=q9
 simp only[h1,h2,h3,Bool.or_false,uV,if_false];refine wX (JF a λT d it R fp St W H Y xw I p c J=>?_);have l:jI prog w T S N:=a.at λo e=>Y _ _ e;refine wX (wpAny_holding ?_);unfold Builtin.List.listLengthHint;refine wX (wpAny_specialOf (M _ l) PySem.F.slot_set_len.lookup ?_);wp_delta;refine wX (wpAny_isInstance (M _ l) sub_set_self ?_);refine wX (wpAny_typeOf (M _ l) ?_);refine wY ?_;rw[if_pos q9];refine wX (wpAny_rule ?_);refine wX ?_;have K:(s.heap.push { cls:=.type "list",data:=.seq ([]:LU).toArray }).objs.size=s.z+1:=size_push' _ _;have f:=Y _ _ (vY _ rr);refine wX (wpAny_updateSeq f rr ?_);have g:=Heap.get?_update_self (Obj.mapSeq (·.push Value.none)) f rr;refine wpAny_updateSeq g rr ?_;have m:=Heap.get?_update_self (Obj.mapSeq (·.pop)) g rr;have q:s.z∉fp:=λX=>by
  grind
 have r:∀b u,b≠s.z->T.get? b=some u ->
   ((T.update s.z (Obj.mapSeq (·.push Value.none))).update s.z (Obj.mapSeq (·.pop))).get? b=some u:=
  λb u V e=>(Heap.get?_update_other _ _ (Ne.symm V)).trans ((Heap.get?_update_other _ _ (Ne.symm V)).trans e)
 have y:=W A.in1 hh;refine wY ⟨plainId_quiet plain_extend_loop _,codeAny_extend_loopS y.toS (fits_of_scanBound U) _ q _ N.length 0 _ _ _ rr (uN _)
  (y.frame 0 _ _ H λb V u e=>r b u (λz=>q (z ▸ V)) e) m (ItemsOf.nil _) λP i L X n O=>?_⟩
 refine wX (wpAny_load n ?_);rw[<-p]at O;refine wY ?_;show Q i.toList P;rw[(by
  apply ext_getElem?;intro b;by_cases a:b<i.size
  .have e:=Array.getElem?_eq_getElem a;rw[Array.getElem?_toList,e,O.2 b _ e]
  .rw[getElem?_eq_none (by rw[vG];lia),getElem?_eq_none (by rw[<-O.1];lia)]:i.toList=R)];refine B P R (λb u e=>X.heap b u (λV=>?_) (r b u (vS (vX e)) (Y _ _ (vZ _ e)))) X.gens X.os p c J;have hl:=vX e;simp_all<;>lia
def Ca (R:A.handled=none)(i:jI prog w s.heap S t)(j:t.length<64)
  (k:∀(D:Shared)(K:Heap)(a:Addr)(F:AV)(n:Nat)(M:LS),(∀b u,s.heap.get? b=some u->D.heap.get? b=some u)->D.os=s.os->D.gens=s.gens->(∀b u,D.heap.get? b=some u->K.get? b=some u)->D.z<=a->K.get? a=some (seqObj "list" F n) ->
   StrsAre F.toList M->M.Perm t->sortedS M=true->Q (.ref a) { D with heap:=K }):
  wpAny (model prog w) A (call (.builtin "sorted") [.ref S]) Q E s:=by
 refine Calls.call_function_entry kind_sorted plain_sorted entry_sorted (args_sorted1 _) ?_;refine wX (wY ?_);refine wX (zI (by exact R) i λD P V l c f O m=>?_);have U:=strsAre_map P m;refine wX (wpAny_newList ?_ (by rw[f,sizeLine_eq];lia));have d:(D.heap.push _).get? _=some (seqObj "list" P.toArray 0):=vY _ rr;refine wX (wpAny_holding (wpAny_call_entry slot_list_sort ⟨_,d,rr⟩ entry_list_sort (list_sort_treeK strKind_oneLt d U.keysOf (λg h aj e=>keyKind_strs (by rw[<-e];exact U)) (by rw[f];exact j) λr o p=>⟨_,rr,?_⟩) (args_list_sort _)));refine cX λy g'=>?_;obtain⟨M,W,X,Z⟩:=sorted_out_str U o p;obtain⟨e,v⟩:=sortedHeap_at d;apply g';refine wY ⟨_,rr,k D _ _ _ e M V c l (λb u q=>?_) (vT _) v W (X.trans O) Z⟩;have x:=vX q;rw[sortedHeap_old (vS x) (by simp_all[lt_succ_of_lt])];exact vZ _ q
end
end DL
namespace DL
open PySem PySem.Spec PyProof.Rows L2
def zJ (a b:Str):Prop:=¬b.cps.toList<a.cps.toList
def D4:ltCps b.cps.toList a.cps.toList=false↔zJ a b:=by rw[ltCps_eq,decide_eq_false_iff_not];rfl
def wo (h:zJ a b)(k:zJ b c):zJ a c:=by
 grind[zJ]
def JG (h:zJ a b)(k:zJ b a):a=b:=by
 have e:=List.le_antisymm (not_lt.mp h) (not_lt.mp k);obtain⟨a⟩:=a;simp_all
noncomputable def Cb (x:Str):LS->LS
 |[]=>[x]
 |y::r=>if ltCps y.cps.toList x.cps.toList then y::Cb x r else x::y::r
def nX (l:LS):LS:=l.foldr Cb []
theorem pA x:∀l,(Cb x l).Perm (x::l)
 |[]=>List.Perm.refl _
 |y::r=>by
  unfold Cb;split
  .exact((pA x r).cons y).trans (List.Perm.swap x y r)
  rfl
theorem cf:∀l,(nX l).Perm l
 |[]=>List.Perm.refl _
 |x::l=>(pA x _).trans ((cf l).cons x)
theorem wt x:∀l,l.Pairwise zJ->(Cb x l).Pairwise zJ
 |[],_=>by simp[Cb]
 |y::r,h=>by
  obtain⟨c,o⟩:=pairwise_cons.mp h;unfold Cb;split
  .rename_i b;refine pairwise_cons.mpr ⟨λz a=>?_,wt x r o⟩;rcases vP ((pA x r).mem_iff.mp a)with rfl|a
   .rw[ltCps_eq,decide_eq_true_eq]at b;exact λk=>lt_irrefl _ (lt_trans b k)
   simp_all
  .rename_i b;rw[not_eq_true]at b;have M:=D4.mp b;refine pairwise_cons.mpr ⟨λz a=>?_,h⟩;rcases vP a with rfl|a
   .exact M
   .exact wo M (c z a)
theorem sw:∀l,(nX l).Pairwise zJ
 |[]=>List.Pairwise.nil
 |x::l=>wt x _ (sw l)
theorem qw:∀(l)p,risingS p l=true->(p::l).Pairwise zJ
 |[],p,_=>List.pairwise_singleton _ _
 |x::r,p,h=>by
  have a:(!ltCps _ _ && risingS x r)=true:=h;rw[vC]at a;have M:=D4.mp (by simpa using a.1);have O:=qw r x a.2;refine pairwise_cons.mpr ⟨λz b=>?_,O⟩;rcases vP b with rfl|b
  .exact M
  .exact wo M ((pairwise_cons.mp O).1 z b)
theorem zK:∀l,sortedS l=true->l.Pairwise zJ
 |[],_=>List.Pairwise.nil
 |x::r,h=>qw r x h
theorem sx:∀(c b:LS),c.Perm b->c.Pairwise zJ->b.Pairwise zJ->c=b
 |[],b,p,_,_=>(nil_perm.mp p).symm
 |x::U,[],p,_,_=>absurd p.length_eq H9
 |x::U,y::a,p,k,o=>by
  have O:zJ y x:=by
   rcases vP (p.mem_iff.mp (mX ..))with z|z
   .rw[z];exact lt_irrefl _
   simp_all
  have e:=JG (by
   rcases vP (p.mem_iff.mpr (mX ..))with z|z
   .rw[z];exact lt_irrefl _
   simp_all) O;subst e;rw[sx U a (List.Perm.cons_inv p) (pairwise_cons.mp k).2 (pairwise_cons.mp o).2]
def G6 (p:M.Perm l)(h:sortedS M=true):M=nX l:=sx _ _ (p.trans (cf l).symm) (zK _ h) (sw l)
section
variable {X:Cx}
noncomputable def zM (X:Cx)(S:Addr)(M:LS):HO:=.ext λh=>jI X.prog X.w h S M
def wu (I:Inv X g h H s)(k:∀b u,s.heap.get? b=some u->f.heap.get? b=some u)(M:f.os=s.os)(U:f.gens=s.gens):Inv X g h H f:=by
 have a:=I.step (d':=f.drawn) (t':=f.toks) (ch:=[]) (λy z=>nomatch z) (λb o y y y e y=>k b o e) (λb o y y y e y=>⟨o.slots,k b o e⟩) (λy y y y n=>n)
  (λb o y e=>⟨o,k b o e⟩) (λy y e=>e) (λy y y e=>e) (λy y e=>e) (λm q=>?_) (I.hok.kept k) I.bare
 .obtain⟨D,F,K,c,d⟩:=f;simp_all
 .obtain⟨o,w,O,M,r⟩:=q;exact⟨o,w,O,k _ o M,r⟩
def qx (R:X.calm=true):bH X (.type "set") (λP H Q=>∃p F D,P=[.ref p]/\fW X.K H p F/\(∀w,bd F w->StrsAre w D)/\D.length<4000/\∀S,H S=none->Q (.ref S) (upd H S (zM X S (ga D)))):=by
 intro i s j H P l Q I r h;obtain⟨p,F,D,rfl,V,W,f,q⟩:=h;obtain⟨u,rfl,a⟩:=gA r;cases a
 refine I.lisE V λw c Z m=>?_;have O:w.length=D.length:=by rw[<-(W _ c).strs,vI]
 refine sr (I.ok.hd R) Z.isList (by simpa using W _ c) (by simp_all ;unfold scanBound;lia) λn t U g=>⟨.ref _,_,I.laid (λb u e=>g b u (vX e) e) (vT _) ?_,rr,q _ (I.hok.fresh (vT _))⟩;refine⟨U,?_,λv x z=>z.at⟩;obtain⟨o,y,y,y,d,y⟩:=U;exact⟨o,d⟩
end
@[simp] def kL:D->OB
 |.lst b=>(fU b).bind λa=>if a.length<64 then some (.lst ((nX (ga a)).map .str),true)else none
 |_=>none
@[simp] def Od:D->OB
 |.lst b=>(fU b).bind λa=>if a.length<4000 then some (.int ((ga a).length:Nat),false)else none
 |_=>none
def nY:bootBuiltins "sorted" = some (.builtin "sorted"):=s9
theorem sy {K:Frag}:∀(a:LS),IsL K N (a.map V.str) (a.map D.str)
 |[]=>.nil
 |z::a=>.cons (.str z) (sy a)
section
variable {X:Cx}{e:Expr}{pos pos2 p p2:Pos}
set_option tactic.hygienic true in
def Cc (D:X.calm=true)(K:X.mg "sorted" = none)(P:X.mg "set" = none)(R:JE X e f)(W:Gl X "sorted")(d:Gl X "set")
  (F:dS e [] X.env):JE X (.Call (.Name "sorted" p) [.Call (.Name "set" p2) [e] [] pos2] [] pos) (f1 kL f):=by
 refine PE.to (rS ((by
  intro A s B H F C Q I r h;obtain⟨S,O,rfl,c,U,q⟩:=h;obtain⟨u,rfl,d⟩:=gA r;cases d
  refine Ca (I.ok.hd D) (I.hok S _ c).1 U λE W a D n g i j k Z K v m M o=>?_;have e:=G6 M o;subst e;have b:=wu I i j k;have y:∀ {w:List _}{P:List _},StrsAre w P->bd (P.map V.str) w:=λz=>by
   induction z with
   |nil=>exact .nil
   |cons x t _ p=>exact .cons ⟨t,rr⟩ p
  refine⟨.ref a,_,b.laid Z K (show bA _ _ _ W _ (.lst _)from ⟨?_,D.toList,n,y m,v⟩),rr,q _ (b.hok.fresh K)⟩;rw[vI,(cf O).length_eq,sizeLine_eq];lia:bH X (.builtin "sorted") (λF H Q=>∃S O,F=[.ref S]/\H S=some (zM X S O)/\O.length<64/\∀l,H l=none->Q (.ref l) (upd H l (.lst ((nX O).map .str)))))) W K s9 (dI (p0 (qx D) d P s9 (dI R gJ F) (he:=F)) gJ)) λE H Q q=>?_;refine cX λ_ g'=>?_;obtain⟨B,Z,G,I,g,r,M,q⟩:=q;apply g';refine eX M λa x M=>?_;refine⟨B,Z,a.1,a.2,g,r,x,λv s J U y t=>?_⟩;obtain⟨L,u⟩:=a;cases y<;>try (simp[kL]at M;done)
 rename_i w N T h A;refine eX M λz i M=>?_;split at M
 .rename_i j;cases M
  refine⟨_,_,z,rr,U.nh.seq h,λC k=>jp k A i,N9,λS m=>⟨S,_,rr,av,lt_of_le_of_lt (nV z) j,λl O=>?_⟩⟩;have b:=Ext.laid (o:=zM X S (ga z)) U.nh m;have n:=Ext.laid (o:=.lst ((nX (ga z)).map V.str)) b.nh O;have c:H l=none:=((U.trans b).hh).free O;exact q _ _ _ ((U.trans b).trans n) (.lst (fW.of av) (sy _)) λ_=>⟨_,_,_,rr,rr,c,av,sy _⟩
 lia
end
end DL
namespace DL
open PySem PySem.Spec PySem.W PyProof.Rows
inductive Run (n:Nat)(lt:Nat->Nat->Bool){α:Type}:KasT α->α->Prop where
 |ret (a:α):Run n lt (.ret a) a
 |ask {i j:Nat}{k:Bool->KasT α}{a:α}(hi:i<n) (hj:j<n) (h:Run n lt (k (lt i j)) a):Run n lt (.ask i j k) a
def Run.bind{c:Nat->Nat->Bool}{o M:Type}{t:KasT o}{f:o->KasT M}{a:o}{b:M}(h:Run n c t a)(k:Run n c (f a) b):Run n c (t.bind f) b:=by
 induction h with
 |ret a=>exact k
 |ask q r _ O=>exact .ask q r (O k)
def Run.wp{q:Nat->Nat->Bool}{o:Type}{M:Nat->Nat->(Bool->Shared->Prop)->Shared->Prop}{Q:o->Shared->Prop}{t:KasT o}{a:o}(J:Shared->Prop)
  (r:∀i j C s,i<n->j<n->J s->(∀k,J k->C (q i j) k)->M i j C s) (h:Run n q t a):∀ {s:Shared},J s->(∀k,J k->Q a k)->t.kasWp M Q s:=by
 induction h with
 |ret a=>intro s O U;exact U s O
 |ask w z _ c=>intro s O U;exact r _ _ _ _ w z O λk b=>c b U
section
variable {n:Nat}{rk:Nat->Int}
noncomputable abbrev sA (rk:Nat->Int)(i j:Nat):Bool:=decide (rk i<rk j)
noncomputable def cj (rk:Nat->Int)(p:Array Nat)(k:Nat):Int:=rk (p.getD k 0)
structure px (n:Nat)(p:Array Nat):Prop where
 size:p.size=n
 perm:p.toList.Perm (List.range n)
def px.lt(h:px n p)(a:k<n):p.getD k 0<n:=by
 have M:k<p.size:=by rw[h.size];exact a
 have:p.getD k 0=p[k]:=by simp_all
 rw[this];exact mem_range.mp (h.perm.mem_iff.mp H9)
def px.rev(h:px n p)(i j:Nat):px n (kas_rev p i j):=
 ⟨(mirror_size _ _ _ _).trans h.size,(Array.perm_iff_toList_perm.mp (mirror_perm p i j _)).trans h.perm⟩
def xY(a:j<=p.size)k:cj rk (kas_rev p i j) k=if i<=k/\k<j then cj rk p (i+j - 1 - k)else cj rk p k:=by
 unfold cj kas_rev;rw[Array.getD_eq_getD_getElem?,getElem?_mirror_all a];split<;>simp
def JH(a:M<p.size)(b:d<=M)k:cj rk (bubble p M d) k=if k=M - d then cj rk p M else if M - d<k/\k<=M then cj rk p (k - 1)else cj rk p k:=by
 unfold cj;simp ;rw[getElem?_bubble a d b];repeat' split
 all_goals rfl
def Up (rk:Nat->Int)(p:Array Nat)(m:Nat):Prop:=∀i j,i<=j->j<m->cj rk p i<=cj rk p j
def xZ (rk:Nat->Int)(p:Array Nat)(m:Nat):Prop:=∀i j,i<=j->j<m->cj rk p j<=cj rk p i
theorem ya {p:Array Nat}(h:px n p){r:Nat}(c:r<=n):∀(f m:Nat),r - m=f->1<=m->m<=r->Up rk p m->∃M,Run n (sA rk) (kas_asc p f m) M/\m<=M/\M<=r/\Up rk p M/\(M<r->cj rk p M<cj rk p (M - 1))
 |0,m,F,K,w,q=>⟨m,.ret m,vT _,w,q,λz=>by grind⟩
 |f+1,m,F,K,w,q=>by
  have a:=h.lt (k:=m) N9;have b:=h.lt (k:=m - 1) N9;by_cases D:cj rk p m<cj rk p (m - 1)
  .refine⟨m,.ask a b ?_,vT _,w,q,λy=>D⟩;have:sA rk _ _=true:=qV D;rw[this];exact .ret m
  .have O:Up rk p (m+1):=λi j U R=>by
    by_cases e:j=m
    .subst e;by_cases P:i=j
     .subst P;exact Int.le_refl _
     .have:=q i (j - 1) N9 N9;lia
    .exact q i j U N9
   refine cX λy g'=>?_;obtain⟨M,d,S,g,l,o⟩:=ya h c f _ N9 N9 N9 O;apply g';refine⟨M,.ask a b ?_,N9,g,l,o⟩;have:sA rk _ _=false:=yK D;rw[this];exact d
def Oe (rk:Nat->Int)(p:Array Nat)(m q:Nat):Prop:=q+1<=m/\∀k,m - (q+1)<=k->k<m->cj rk p k=cj rk p (m - 1)
def zN(c:m<=p.size)(a:Oe rk p m q)k:cj rk (kas_rev p (m - (q+1)) m) k=cj rk p k:=by
 rw[xY c];split
 .rename_i b;rw[a.2 k b.1 b.2,a.2 _ O_ O_]
 .rfl
def D5(e:∀k,cj rk M k=cj rk p k)(h:xZ rk p m):xZ rk M m:=λi j a b=>by rw[e,e];exact h i j a b
def sC p(h:1<=m):Oe rk p m 0:=⟨h,λk a b=>by
 grind⟩
theorem nZ {r:Nat}(t:r<=n):∀(f:Nat)(p:Array Nat)(m q:Nat),px n p->r - m=f->1<=m->m<=r->xZ rk p m->Oe rk p m q->∃M O a,Run n (sA rk) (kas_desc f p m q) (M,O,a)/\px n M/\m<=O/\O<=r/\xZ rk M O/\Oe rk M O a
 |0,p,m,q,h,V,W,R,K,F=>⟨p,m,q,.ret _,h,vT _,R,K,F⟩
 |f+1,p,m,q,h,V,W,R,K,F=>by
  have b:=h.lt (k:=m) N9;have c:=h.lt (k:=m - 1) N9;have D:∀M:Array Nat,(∀k,cj rk M k=cj rk p k)->cj rk p m<=cj rk p (m - 1)->xZ rk M (m+1):=λM e A i j u Z=>by
   rw[e,e];by_cases z:j=m
   .subst z;by_cases y:i=j
    .subst y;exact Int.le_refl _
    .have:=K i (j - 1) N9 N9;lia
   .exact K i j u N9
  by_cases S:cj rk p m<cj rk p (m - 1)
  .have U:sA rk (p.getD m 0) (p.getD (m - 1) 0)=true:=qV S;by_cases d:q > 0
   .have e:=zN (p:=p) (by rw[h.size];lia) F;refine cX λY g'=>?_;obtain⟨M,O,a,P,g,w,l,o,s⟩:=nZ t f (kas_rev p (m - (q+1)) m) (m+1) 0 (h.rev _ _) N9 N9 N9 (D _ e N9) (sC _ N9);apply g';refine⟨M,O,a,.ask b c ?_,g,N9,l,o,s⟩;rw[U,if_pos rr,if_pos d];exact P
   .refine cX λY g'=>?_;obtain⟨M,O,a,P,g,w,l,o,s⟩:=nZ t f p (m+1) 0 h N9 N9 N9 (D _ (λY=>rr) N9) (sC _ N9);apply g';refine⟨M,O,a,.ask b c ?_,g,N9,l,o,s⟩;rw[U,if_pos rr,if_neg d];exact P
  .have U:sA rk (p.getD m 0) (p.getD (m - 1) 0)=false:=yK S;by_cases x:cj rk p (m - 1)<cj rk p m
   .have v:sA rk (p.getD (m - 1) 0) (p.getD m 0)=true:=qV x;refine⟨p,m,q,.ask b c ?_,h,vT _,R,K,F⟩;rw[U,if_neg uX];refine .ask c b ?_;rw[v,if_pos rr];exact .ret _
   .have v:sA rk (p.getD (m - 1) 0) (p.getD m 0)=false:=yK x;have X:cj rk p m=cj rk p (m - 1):=N9
    obtain⟨M,O,a,P,g,w,l,o,s⟩:=nZ t f p (m+1) (q+1) h N9 N9 N9 (D _ (λY=>rr) N9) ⟨by have:=F.1;simp_all,λk B C=>by
     rw[Nat.add_sub_cancel];by_cases z:k=m
     .rw[z]
     .rw[F.2 k N9 N9,X]⟩
    refine⟨M,O,a,.ask b c ?_,g,N9,l,o,s⟩;rw[U,if_neg uX];refine .ask c b ?_;rw[v,if_neg uX];exact P
def zO {r:Nat}(U:r<=n)(h:px n p){m:Nat}(k:1<=m)(o:m<=r)(q:xZ rk p m):∃M O,Run n (sA rk) (kas_tail3 m r p) (M,O)/\px n O/\1<=M/\M<=r/\Up rk O M:=by
 obtain⟨M,b,D,c,d,y⟩:=ya (h.rev 0 m) U _ m rr k o (λi j a z=>by
  rw[xY (by rw[h.size];lia),xY (by rw[h.size];lia),if_pos N9,if_pos N9];exact q _ _ O_ N9);exact⟨M,_,b.bind (.ret _),h.rev 0 m,M_,c,d⟩
def zP(U:r<=n)(h:px n p)(w:m+1<=r)(z:xZ rk p (m+1)):∃M O,Run n (sA rk) (kas_descPart m r p) (M,O)/\px n O/\1<=M/\M<=r/\Up rk O M:=by
 refine cX λy g'=>?_;obtain⟨k,D,g,q,a,l,e,f,i⟩:=nZ U _ p _ 0 h rr N9 w z (sC _ N9);apply g';by_cases F:g > 0
 .obtain⟨M,O,j,o,b,c,d⟩:=zO U (a.rev _ D) N9 e (D5 (zN (by rw[a.size];lia) i) f);exact⟨M,O,q.bind (by simp_all),o,b,c,d⟩
 .obtain⟨M,O,j,o,b,c,d⟩:=zO U a N9 e f;exact⟨M,O,q.bind (by simp_all),o,b,c,d⟩
def G7 {p:Array Nat}(h:px n p)(R:1<=n):∃M U,Run n (sA rk) (kas_count n p) (M,U)/\px n U/\1<=M/\M<=n/\Up rk U M:=by
 obtain⟨m,b,K,o,c,s⟩:=ya h (vT n) (n - 1) 1 rr (vT 1) R (λi j a b=>by
  simp_all);by_cases e:m=n
 .exact⟨m,p,b.bind (by rw[if_pos (by simp[e])];exact .ret _),h,K,o,c⟩
 .have u:=s N9;have q:¬(m == n)=true:=by simp[e]
  by_cases a:m > 1
  .by_cases P:cj rk p 0<cj rk p (m - 1)
   .refine⟨m,p,b.bind ?_,h,K,o,c⟩;rw[if_neg q,if_pos a];refine .ask (h.lt M_) (h.lt N9) ?_;have:sA rk (p.getD 0 0) _=true:=qV P;rw[this,if_pos rr];exact .ret _
   .have O:∀k,k<m->cj rk p k=cj rk p 0:=λk S=>by
     have v:=c 0 k N9 S;have w:=c k (m - 1) N9 N9;simp_all<;>lia
    have D:xZ rk p (m+1):=λi j d W=>by
     grind
    obtain⟨M,U,r,F,f,g,l⟩:=zP (vT n) (h.rev 0 m) (m:=m) N9 (D5 λk=>by
     rw[xY (by rw[h.size];lia)];split
     .rename_i z;rw[O _ N9,O k z.2]
     .rfl D);refine⟨M,U,b.bind ?_,F,f,g,l⟩;rw[if_neg q,if_pos a];refine .ask (h.lt N9) (h.lt N9) ?_;have:sA rk (p.getD 0 0) _=false:=yK P;rw[this];exact r
  .have t:m=1:=N9
   subst t;have D:xZ rk p 2:=λi j d W=>by
    grind
   refine cX λ_ g'=>?_;obtain⟨M,U,r,F,f,g,l⟩:=zP (vT n) h (m:=1) N9 D;apply g';refine⟨M,U,b.bind ?_,F,f,g,l⟩;simp_all
theorem pB {p:Array Nat}(h:px n p){k:Nat}(D:k<n)(o:Up rk p k):∀(f l r:Nat),r - l<=f->l<=r->r<=k->(∀i,i<l->cj rk p i<=cj rk p k)->(∀i,r<=i->i<k->cj rk p k<cj rk p i) ->
  ∃M,Run n (sA rk) (kas_place p k f l r) M/\M<=k/\(∀i,i<M->cj rk p i<=cj rk p k)/\(∀i,M<=i->i<k->cj rk p k<cj rk p i)
 |0,l,r,K,P,e,q,w=>⟨l,.ret l,M_,q,λi a b=>w i N9 b⟩
 |f+1,l,r,K,P,e,q,w=>by
  by_cases O:l ≥ r
  .refine⟨l,?_,M_,q,λi a b=>w i M_ b⟩;unfold kas_place;rw[if_pos O];exact .ret l
  .by_cases F:cj rk p k<cj rk p ((l+r) / 2)
   .obtain⟨M,U,z,c,d⟩:=pB h D o f l ((l+r) / 2) N9 N9 N9 q λi a b=>by
     have:=o _ i a b;lia
    refine⟨M,?_,z,c,d⟩;unfold kas_place;rw[if_neg O];refine .ask (h.lt N9) (h.lt N9) ?_;have:sA rk _ _=true:=qV F;rw[this];exact U
   .obtain⟨M,U,z,c,d⟩:=pB h D o f ((l+r) / 2+1) r N9 N9 e (λi a=>by
     have:=o i ((l+r) / 2) N9 N9;lia) w
    refine⟨M,?_,z,c,d⟩;unfold kas_place;rw[if_neg O];refine .ask (h.lt N9) (h.lt N9) ?_;have:sA rk _ _=false:=yK F;rw[this];exact U
theorem D6:∀(f:Nat)(p:Array Nat)(k:Nat),px n p->n - k=f->k<=n->Up rk p k->∃M,Run n (sA rk) (kas_bin f p k) M/\px n M/\Up rk M n
 |0,p,k,h,K,P,w=>⟨p,.ret p,h,(show k=n by grind) ▸ w⟩
 |f+1,p,k,h,K,P,w=>by
  have O:k<n:=N9
  refine cX λy g'=>?_;obtain⟨l,g,V,m,s⟩:=pB h O w k 0 k M_ N9 (vT _) (λi z=>by simp_all) (λi a b=>by grind);have D:k<p.size:=by rw[h.size];exact O
  have U:Up rk (bubble p k (k - l)) (k+1):=λi j c W=>by
   rw[JH D N9,JH D N9];have e:k - (k - l)=l:=N9
   rw[e];by_cases R:i=l
   .grind
   .rw[if_neg R];by_cases F:l<i/\i<=k
    .rw[if_pos F,if_neg N9,if_pos N9];exact w _ _ N9 N9
    .rw[if_neg F];by_cases d:j=l
     .rw[if_pos d];exact m i N9
     .rw[if_neg d];by_cases o:l<j/\j<=k
      .grind
      .rw[if_neg o];exact w _ _ c N9
  obtain⟨M,q,S,r⟩:=D6 f _ (k+1) ( ⟨(bubble_size _ _ _).trans h.size,(Array.perm_iff_toList_perm.mp (bubble_perm p k (k - l))).trans h.perm⟩) N9 N9 U;apply g';exact⟨M,g.bind q,S,r⟩
def zQ (o:1<=n):∃p,Run n (sA rk) (kas_sort n) p/\px n p/\Up rk p n:=by
 have q:px n (List.toArray (List.range n)):=⟨H9,q9⟩;obtain⟨m,p,O,k,c,d,U⟩:=G7 q o;by_cases e:m<n
 .have M:max m 1=m:=N9
  obtain⟨a,f,r,b⟩:=D6 _ p (max m 1) k rr N9 (by rw[M];exact U);exact⟨a,O.bind (by simp_all),r,b⟩
 .have:m=n:=N9
  subst this;exact⟨p,O.bind (by rw[if_neg e];exact .ret _),k,U⟩
end
def G9 {a b c:LI}(h:¬b<a)(k:¬c<b):¬c<a:=by grind
def JJ {a b:LI}(h:¬b<a)(k:¬a<b):a=b:=by grind
section
variable {α:Type}(f:α->LI)
def MB (a b:α):Prop:=¬f b<f a
noncomputable def pC (x:α):List α->List α
 |[]=>[x]
 |y::r=>if f y<f x then y::pC x r else x::y::r
noncomputable def dm (l:List α):List α:=l.foldr (pC f) []
theorem pD x:∀l,(pC f x l).Perm (x::l)
 |[]=>List.Perm.refl _
 |y::r=>by
  unfold pC;split
  .exact((pD x r).cons y).trans (List.Perm.swap x y r)
  rfl
theorem aA:∀l,(dm f l).Perm l
 |[]=>List.Perm.refl _
 |x::l=>(pD f x _).trans ((aA l).cons x)
theorem wv x:∀l,l.Pairwise (MB f)->(pC f x l).Pairwise (MB f)
 |[],_=>by simp[pC]
 |y::r,h=>by
  obtain⟨c,o⟩:=pairwise_cons.mp h;unfold pC;split
  .rename_i b;refine pairwise_cons.mpr ⟨λz a=>?_,wv x r o⟩;rcases vP ((pD f x r).mem_iff.mp a)with rfl|a
   .exact λk=>lt_irrefl _ (lt_trans b k)
   simp_all
  .rename_i b;refine pairwise_cons.mpr ⟨λz a=>?_,h⟩;rcases vP a with rfl|a
   .exact b
   .exact G9 b (c z a)
theorem cZ:∀l,(dm f l).Pairwise (MB f)
 |[]=>List.Pairwise.nil
 |x::l=>wv f x _ (cZ l)
theorem ww:∀(k o:List α),(∀x∈k,∀y∈k,f x=f y->x=y)->k.Perm o->k.Pairwise (MB f)->o.Pairwise (MB f)->k=o
 |[],o,_,p,_,_=>(nil_perm.mp p).symm
 |x::U,[],_,p,_,_=>absurd p.length_eq H9
 |x::U,y::c,q,p,w,D=>by
  have r:=p.mem_iff.mpr (mX ..);have M:MB f x y:=by
   rcases vP r with z|z
   .rw[z];exact lt_irrefl _
   simp_all
  have O:MB f y x:=by
   rcases vP (p.mem_iff.mp (mX ..))with z|z
   .rw[z];exact lt_irrefl _
   simp_all
  have e:=q x (mX ..) y r (JJ M O);subst e;rw[ww U c (λa F b K=>q a (mZ _ F) b (mZ _ K)) (List.Perm.cons_inv p) (pairwise_cons.mp w).2 (pairwise_cons.mp D).2]
theorem hG (a:∀x∈l,∀y∈l,f x=f y->x=y)(p:M.Perm l)(h:M.Pairwise (MB f)):M=dm f l:=
 ww f _ _ (λx hx y b=>a x (p.mem_iff.mp hx) y (p.mem_iff.mp b)) (p.trans (aA f l).symm) h (cZ f l)
end
theorem mI {a:Type}{p q:a->Bool}(h:∀x,p x=true->q x=true):∀l:List a,(l.filter p).length<=(l.filter q).length
 |[]=>vT _
 |x::l=>by
  have M:=mI h l;grind
noncomputable def sD (a:List LI)(c:LI):Int:=((a.filter λx=>decide (x<c)).length:Nat)
def Of{a b:LI}(h:¬b<a):sD c a<=sD c b:=by
 refine Int.ofNat_le.mpr (mI (λx hx=>?_) c);grind
def D8(k:a∈cs)(h:a<b):sD cs a<sD cs b:=by
 apply Int.ofNat_lt.mpr;induction cs with
 |nil=>simp at k
 |cons c cs O=>
  have M:∀l:List _,(l.filter λx=>decide (x<a)).length<=(l.filter λx=>decide (x<b)).length:=mI (λx hx=>by grind)
  grind
def zR (c:a∈d):decide (sD d a<sD d b)=decide (a<b):=by
 by_cases h:a<b
 .simp_all[D8]
 simp_all[yK,Of]
set_option genInjectivity true in
inductive At where
 |i (n:Int)
 |s (z:Str)
noncomputable def SQ:At->LI
 |.i n=>[n]
 |.s z=>z.cps.toList.map (λ(c:Nat)=>(c:Int)+1)++[0]
def bK (a:List At):LI:=a.flatMap SQ
noncomputable def aX:List At->List At->Option Bool
 |[],c=>some (!c.isEmpty)
 |_::_,[]=>some false
 |.i a::k,.i b::c=>if a=b then aX k c else some (decide (a<b))
 |.s a::k,.s b::c=>if a=b then aX k c else some (decide (a.cps.toList<b.cps.toList))
 |_::_,_::_=>none
theorem yc:∀(a b:LN)(r M:LI),(a.map (λ(c:Nat)=>(c:Int)+1)++0::r)<(b.map (λ(c:Nat)=>(c:Int)+1)++0::M)↔a<b\/(a=b/\r<M)
 |[],[],r,M=>by simp
 |[],y::b,r,M=>by simp[cons_lt_cons_iff]
 |x::a,[],r,M=>by simp[cons_lt_cons_iff];lia
 |x::a,y::b,r,M=>by
  rw[uY,uY,cons_append,cons_append,cons_lt_cons_iff,yc a b r M,cons_lt_cons_iff,Int.add_lt_add_iff_right,Int.ofNat_lt,Int.add_left_inj,Int.ofNat_inj,List.cons.injEq,and_or_left,or_assoc,and_assoc]
def pF (x:At)(a:List At):bK (x::a)=SQ x++bK a:=q9
theorem D9 {a b:Str}:a.cps.toList=b.cps.toList↔a=b:=by
 constructor
 .obtain⟨a⟩:=a;simp_all
 simp_all
theorem oe:∀(k o:List At)(b:Bool),aX k o=some b->b=decide (bK k<bK o)
 |[],[],b,h=>by simp_all[aX]
 |[],y::o,b,h=>by
  simp[aX]at h;subst h;rw[pF];cases e:SQ y with
  |nil=>exact absurd e (by cases y<;>simp[SQ])
  |cons c q=>simp[bK]
 |x::k,[],b,h=>by simp_all[aX,bK]
 |.i a::k,.i c::o,b,h=>by
  rw[aX]at h;show b=decide (a::bK k<c::bK o);split at h
  .rename_i e;subst e;rw[oe k o b h];simp
  .simp_all[cons_lt_cons_iff]
 |.s a::k,.s c::o,b,h=>by
  rw[aX]at h;rw[pF,pF];have M:∀(z:Str)(r:List _),SQ (.s z)++r=z.cps.toList.map (λ(c:Nat)=>(c:Int)+1)++0::r:=λz r=>by simp[SQ]
  rw[M,M];split at h
  .rename_i e;rw[oe k o b h];grind[yc]
  grind[yc,D9]
 |.i _::_,.s _::_,b,h=>by simp[aX]at h
 |.s _::_,.i _::_,b,h=>by simp[aX]at h
theorem Ce:∀b o,aX b o=some false->aX o b=some false->b=o
 |[],[],_,_=>rr
 |[],y::o,h,_=>by simp[aX]at h
 |x::b,[],_,h=>by simp[aX]at h
 |.i a::b,.i c::o,h,k=>by
  rw[aX]at h k;by_cases e:a=c
  .subst e;rw[if_pos rr]at h k;rw[Ce b o h k]
  lia
 |.s a::b,.s c::o,h,k=>by
  rw[aX]at h k;by_cases e:a=c
  .subst e;rw[if_pos rr]at h k;rw[Ce b o h k]
  .rw[if_neg e]at h;rw[if_neg (Ne.symm e)]at k;simp only[Option.some.injEq,decide_eq_false_iff_not]at h k;exact absurd (D9.mp (List.le_antisymm (not_lt.mp k) (not_lt.mp h))) e
 |.i _::_,.s _::_,h,_=>by simp[aX]at h
 |.s _::_,.i _::_,h,_=>by simp[aX]at h
noncomputable def cz (a:List (List At)):Bool:=a.all λx=>a.all λy=>(aX x y).isSome
theorem gW (h:cz d=true)(hx:x∈d)(a:y∈d):aX x y=some (decide (bK x<bK y)):=by
 obtain⟨b,e⟩:=uU (all_eq_true.mp (all_eq_true.mp h x hx) y a);rw[e,oe _ _ _ e]
theorem lJ (h:cz d=true)(hx:x∈d)(a:y∈d)(e:bK x=bK y):x=y:=by
 refine Ce _ _ ?_ ?_
 .grind[gW]
 grind[gW]
def B1:At->Value->Prop
 |.i n,v=>∃t,v=.int n t
 |.s z,v=>∃t,v=.str z t
def f7 (h:Heap)(c:List At)(v:Value):Prop:=∃a o b n,v=.ref a/\h.get? a=some o/\o.cls=.type "tuple"/\o.data=.seq b n/\Paired B1 c b.toList
def f7.keep (x:f7 h d v)(k:∀a o,o.cls=.type "tuple"->h.get? a=some o->h'.get? a=some o):f7 h' d v:=by
 obtain⟨a,o,b,n,e,M,c,r⟩:=x;exact⟨a,o,b,n,e,k a o c M,c,r⟩
noncomputable def c6 (ks:List (List At)):Bool:=ks.all (λx=>match x with|.i _::_=>true|_=>false) || ks.all (λx=>match x with|.s _::_=>true|_=>false)
section
variable {prog:Program}{w:World}{A:Around}{E:QV}{s:Shared}
def JL (r k:List At)(o M:LU)(i:Nat)(U:Paired B1 r o)(d:Paired B1 k M)(h:aX r k=some b)(z:j=decide (r.length<k.length))(q:Q b s):KatLex prog w A true j Q (o.zip M) i s:=by
 induction U generalizing k M i with
 |nil=>
  refine kat_nil ?_;cases k with
  |nil=>simp_all[aX]
  |cons y k=>simp_all[aX]
 |@cons x v r o U g f=>
  cases d with
  |nil=>
   simp_all[kat_nil,aX]
  |@cons y u k M d O=>
   cases x with
   |i a=>
    cases y with
    |s _=>simp[aX]at h
    |i c=>
     obtain⟨t,rfl⟩:=U;obtain⟨u,rfl⟩:=d;refine kat_cons (wpAny_eqBool_int ?_);rw[aX]at h;by_cases e:a=c
     .rw[if_pos e]at h;rw[show(a == c)=true by simp[e]];exact kat_yes (f k M (i+1) O h (by rw[z];simp))
     .rw[if_neg e]at h;cases h
      rw[show(a == c)=false by simp[e]];refine kat_no ?_;cases D:(true && i == 0) with
      |true=>exact oneLt_int q
      |false=>exact kat_one _ _ (PyProof.Rows.lt_int q)
   |s a=>
    cases y with
    |i _=>simp[aX]at h
    |s c=>
     obtain⟨t,rfl⟩:=U;obtain⟨u,rfl⟩:=d;refine kat_cons (wpAny_eqBool_str ?_);rw[aX]at h;by_cases e:a=c
     .rw[if_pos e]at h;rw[qV e];exact kat_yes (f k M (i+1) O h (by rw[z];simp))
     .rw[if_neg e]at h;cases h
      rw[yK e];refine kat_no ?_;cases D:(true && i == 0) with
      |true=>exact oneLt_str q
      |false=>exact kat_one _ _ (PySem.P.lt_str q)
theorem eZ {a U:Type}{F:a->U->Prop}{M:List a}{O:List U}(h:Paired F M O):M.length=O.length:=h.rec rr λ_ _ i=>congrArg _ i
def SS{k z:List At}{x y:Value}{b:Bool}(hx:f7 s.heap k x)(F:f7 s.heap z y)(h:aX k z=some b)(q:Q b s):wpAny (model prog w) A (keyLt' (tuples' true) x y) Q E s:=by
 refine cX λv g'=>?_;obtain⟨a,o,K,n,rfl,c,v,P,r⟩:=hx;obtain⟨d,R,D,e,rfl,M,v,O,U⟩:=F;apply g';refine kat_lt c P M O (JL k z _ _ 0 r U h ?_ q);rw[<-vG,<-vG,eZ r,eZ U]
theorem qy {D:List (List At)}{P:LU}(j:Paired (f7 h) D P):(∀k∈D,k≠[])->∃F,KatTups h P F/\F.length=D.length/\∀v∈F,∃k r,(k::r)∈D/\B1 k v:=by
 induction j with
 |nil=>intro _;exact⟨[],trivial,rr,H9⟩
 |cons x t n=>
  intro M;obtain⟨F,R,S,Z⟩:=n λz V=>M z (mZ _ V);obtain⟨a,o,K,n,rfl,U,W,X,r⟩:=x;cases O:K.toList with
  |nil=>
   rw[O]at r;cases r
   simp_all
  |cons v P=>
   rw[O]at r;obtain⟨p,b⟩:∃p,K[0]? = some v:=⟨(),by rw[<-Array.getElem?_toList,O];rfl⟩;cases r with
   |cons q c=>
    refine⟨v::F,KatTups.cons U W X b R,by simp[S],λu d=>?_⟩;grind
def zS (F:Paired (f7 s.heap) d e)(a:c6 d=true)(K:0<d.length)(q:Q (tuples' true) s):wpAny (model prog w) A (keyKind' e.toArray) Q E s:=by
 have M:∀k∈d,k≠[]:=λk c z=>by
  subst z;unfold c6 at a;rw[or_eq_true]at a;rcases a with a|a
  .have:=all_eq_true.mp a [] c;simp at this
  .have:=all_eq_true.mp a [] c;simp at this
 obtain⟨P,o,R,D⟩:=qy F M;unfold c6 at a;rw[or_eq_true]at a;rcases a with a|a
 .refine kat_kind (T:=.type "int") o O_ (λv b=>?_) q9 q;obtain⟨k,r,m,z⟩:=D v b;have:=all_eq_true.mp a _ m;cases k with
  |i n=>obtain⟨t,rfl⟩:=z;exact .now
  |s O=>simp at this
 .refine kat_kind (T:=.type "str") o O_ (λv b=>?_) q9 q;obtain⟨k,r,m,z⟩:=D v b;have:=all_eq_true.mp a _ m;cases k with
  |s O=>obtain⟨t,rfl⟩:=z;exact .now
  |i n=>simp at this
end
section
variable {prog:Program}{w:World}{A:Around}{E:QV}{s:Shared}
theorem fg {a U:Type}{F:a->U->Prop}(d)e{M:List a}{O:List U}(h:Paired F M O):∀ {i:Nat},i<M.length->F (M.getD i d) (O.getD i e):=by
 induction h with
 |nil=>intro i h;simp at h
 |cons r _ t=>intro i h;cases i with
  |zero=>exact r
  |succ i=>exact t (by simpa using h)
def DA (a:List (List At))(i:Nat):Int:=sD (a.map bK) (bK (a.getD i []))
def DB{c:LU}(q:cz a=true)(k:Paired (f7 s.heap) a c):∀(i j)C b,i<a.length->j<a.length->b=s->(∀o,o=s->C (sA (DA a) i j) o)->kas_ask prog w A (tuples' true) c i j C b:=by
 intro i j C b r z e O;subst e;have M:a.getD i []∈a:=by simp_all
 refine SS (fg [] _ k r) (fg [] _ k z) (gW q M (by simp_all)) ?_;have:=O b rr;unfold sA DA at this;rw[zR (uS ⟨_,M,rr⟩)]at this;exact this
end
end DL
namespace DL
open PySem PySem.Spec PySem.W PyProof.Rows L2
noncomputable def Q4:D->Option At
 |.int n=>some (.i n)
 |.str z=>some (.s z)
 |_=>none
def mJ:LD->Option (List At)
 |[]=>some []
 |d::b=>(Q4 d).bind λa=>(mJ b).map (a :: ·)
def zU:D->Option (List At)
 |.tup a=>mJ a
 |_=>none
def dQ:LD->Option (List (List At))
 |[]=>some []
 |d::b=>(zU d).bind λa=>(dQ b).map (a :: ·)
noncomputable def iN:LD->Option LI
 |[]=>some []
 |.int n::a=>(iN a).map (n :: ·)
 |_::_=>none
def qz (a:LI):LI:=dm (λn=>[n]) a
def iO:LD->OB
 |[.lst b]=>(iN b).bind λa=>if a.length<64 then some (.lst ((qz a).map .int),true)else none
 |_=>none
theorem lK:∀ {b:LD}{c:List (List At)},dQ b=some c->c.length=b.length
 |[],_,h=>by simp_all[dQ]
 |d::b,_,h=>by
  refine eX h λa o h=>eS h λr k h=>?_;subst h;simp[lK k]
theorem wx:∀ {b:LD}{k:List (List At)},dQ b=some k->∀ {i:Nat},i<b.length->zU (b.getD i .non)=some (k.getD i [])
 |[],_,h,i,c=>by simp at c
 |d::b,_,h,0,c=>by
  refine eX h λa o h=>eS h λr q h=>?_;subst h;exact o
 |d::b,_,h,i+1,c=>by
  refine eX h λa o h=>eS h λr q h=>?_;subst h;exact wx q (by simpa using c)
section
variable {X:Cx}
theorem zV {K:Frag}{B:Hp}{c:LV}{o:LD}{k:List At}{b:LU}(h:bd c b)(j:IsL K B c o)(e:mJ o=some k):Paired B1 k b:=by
 induction h generalizing o k with
 |nil=>cases j;cases e;exact .nil
 |cons r _ n=>cases j with|cons i O=>
  refine eX e λa q h=>eS h λt w h=>?_;subst h;refine .cons ?_ (n O w);cases i<;>simp [Q4]at q<;>cases q
  .exact r
  .exact r
theorem oh {F:AO}{P:St}{H:Hp}{s:Shared}(I:Inv X F P H s){q:LV}{w:LD}{z:List (List At)}{c:LU}(f:bd q c)(j:IsL X.K H q w)(h:dQ w=some z):Paired (f7 s.heap) z c:=by
 induction f generalizing w z with
 |nil=>cases j;cases h;exact .nil
 |cons r _ n=>cases j with|cons i O=>
  refine eX h λa k h=>?_;refine eS h λt R h=>?_;subst h;refine .cons ?_ (n O R);rcases i with _|_|_|_|_|⟨S,V⟩|_|_|_<;>simp [zU]at k<;>try (cases k)
  cases r
  obtain⟨D,U,⟨o,b,W,n,Z⟩,_⟩:=I.tuple S;exact⟨_,o,_,n,rr,b,W,Z,by simpa using zV U V k⟩
theorem DC {K:Frag}{B:Hp}{c:LV}{a:LD}(h:IsL K B c a):∀ {i:Nat},i<a.length->Is K B (c.getD i .non) (a.getD i .non):=by
 induction h using IsL.ind with
 |n=>intro i b;simp at b
 |s h _ t=>intro i b;cases i with
  |zero=>exact h
  |succ i=>exact t (by simpa using b)
theorem zW {a:LV}{c:LU}(h:bd a c):∀ {i:Nat},i<a.length->aI (a.getD i .non) (c.getD i Value.none):=fg _ _ h
theorem sE {K:Frag}{B:Hp}{b:LV}{a:LD}(h:IsL K B b a):∀(l:LN),(∀i∈l,i<a.length)->IsL K B (l.map λi=>b.getD i .non) (l.map λi=>a.getD i .non)
 |[],_=>.nil
 |i::l,c=>.cons (DC h (c i (mX ..))) (sE h l λj k=>c j (mZ _ k))
theorem pG (h:bd d e):∀(l:LN),(∀i∈l,i<d.length)->bd (l.map λi=>d.getD i .non) (l.map λi=>e.getD i Value.none)
 |[],_=>.nil
 |i::l,a=>.cons (zW h (a i (mX ..))) (pG h l λj b=>a j (mZ _ b))
end
section
variable {X:Cx}
theorem DD {K:Frag}{B:Hp}{b:LV}{c:LD}{k:LI}{a:LU}(h:bd b a)(j:IsL K B b c)(h:iN c=some k):IntsAre a k:=by
 induction ‹bd b a› generalizing c k with
 |nil=>cases j;cases h;exact .nil
 |cons r _ n=>cases j with|cons i O=>
  cases i<;>simp only[iN]at h<;>try (cases h)
  refine eS h λt o h=>?_;subst h;obtain⟨u,rfl⟩:=r;exact .cons _ u (n O o)
theorem oi {K:Frag}{N:Hp}:∀(a:LI),IsL K N (a.map V.int) (a.map D.int)
 |[]=>.nil
 |z::a=>.cons (.int z) (oi a)
def zX (p:M.Perm l)(h:M.Pairwise (·<=·)):M=qz l:=by
 refine hG _ (λx z y z e=>by injection e) p (h.imp λ{a b} O=>?_);simp_all[MB,cons_lt_cons_iff]
def sG (I:Inv X g h H s)(O:aS B H)(q:Fin X.K B H (.lst i) true Q)(k:bd f d.toList)(a:IsL X.K B f i)(r:f.length<=sizeLine):
  EP X g h Q (.ref (s.z+1)) { s with heap:=sortedAll s.heap j d }:=by
 obtain⟨e,w⟩:=sortedAll_at _ _ _;have c:=I.hok.fresh (le_succ _);have M:=Ext.laid (o:=.lst f) O c;exact⟨.ref _,_,I.laid (λb o=>sortedAll_old) (le_succ _) (show bA _ _ _ _ _ (.lst f)from ⟨r,d.toList,e,k,w⟩),rr,
  q _ _ _ M (.lst (fW.of av) (a.mono M.bn)) λy=>⟨_,_,_,rr,rr,c,av,a.mono M.bn⟩⟩
set_option tactic.hygienic true in
def JM:bH X (.builtin "sorted") (yM X.K iO):=by
 intro p s t H v x Q I r h;obtain⟨B,dl,d,y,U,i,M,q⟩:=h;cases i with
 |nil=>simp[iO]at M
 |cons z R=>
  cases R with
  |cons _ _=>cases z<;>simp[iO]at M
  |nil=>
   cases z<;>try (simp[iO]at M;done)
   rename_i l D S h F;obtain⟨u,rfl,b⟩:=gA r;cases b
   refine I.lisE (U.seq h) λw a V A=>?_;refine eX M λP W M=>?_;split at M
   .rename_i o;cases M
    have O:=DD a F W;have c:=IntsAre.length O;refine sorted_ints V.isList (by simpa using O) N9 λZ f g j k=>?_;have e:=zX j k;subst e;exact sG I U q (gU g) (oi _) (by rw[vI];unfold qz;rw[(aA _ P).length_eq,sizeLine_eq];lia)
   .cases M
end
end DL
namespace DL
open PySem PySem.Spec PyProof.Rows L2
section
variable {X:Cx}{e:Expr}{pos pos2 p p2:Pos}
set_option tactic.hygienic true in
def GA (D:X.calm=true)(F:X.mg "len" = none)(K:X.mg "set" = none)(P:JE X e f)(R:Gl X "len")(b:Gl X "set")
  (w:dS e [] X.env):JE X (.Call (.Name "len" p) [.Call (.Name "set" p2) [e] [] pos2] [] pos) (f1 Od f):=by
 refine PE.to (rS (by
  intro R s V H k W Q I r h;obtain⟨S,M,rfl,U,q⟩:=h;obtain⟨u,rfl,a⟩:=gA r;cases a
  refine cX λ_ g'=>?_;obtain⟨o,z,d,t,c,O,D,f,F,Z,K,P,_⟩:=(I.hok S _ U).1;apply g';have w:z.size=M.length:=by rw[<-F.length_eq,vI,vG]
  have g:M.length<4096:=K;exact PySem.call_len_set c O D P (by rw[w];lia) ⟨.int _,H,I.tok _,⟨_,by rw[w]⟩,q⟩:bH X (.builtin "len") (λk H Q=>∃S M,k=[.ref S]/\H S=some (zM X S M)/\Q (.int M.length) H)) R F PySem.boot_len (dI (p0 (qx D) b K s9 (dI P gJ w) (he:=w)) gJ)) λu H Q q=>?_;refine cX λ_ g'=>?_;obtain⟨B,V,x,y,c,r,M,q⟩:=q;apply g';refine eX M λU W M=>?_;refine⟨B,V,U.1,U.2,c,r,W,λv k A O Z l=>?_⟩;obtain⟨C,m⟩:=U;cases Z<;>try (simp at M)
 rename_i n E G h s;refine eX M λz d M=>?_;split at M
 .rename_i g;cases M
  refine⟨_,_,z,rr,O.nh.seq h,λt i=>jp i s d,g,λS j=>⟨S,_,rr,av,?_⟩⟩;have a:=Ext.laid (o:=zM X S (ga z)) O.nh j;exact(q.into (O.trans a)).one (O.trans a).nh (.int _)
 .cases M
end
section
variable {X:Cx}{pos:Pos}
theorem JN {K:Frag}{B:Hp}{a:LV}{b:LD}{c:LI}(h:IsL K B a b):iN b=some c->a=c.map V.int:=by
 induction h using IsL.ind generalizing c with
 |n=>intro h;simp_all[iN]
 |s i _ n=>
  intro h;cases i<;>simp only[iN]at h<;>try (cases h)
  refine eS h λt k h=>?_;subst h;rw[n k];rfl
end
section
variable {X:Cx}{a:Expr}{pos:Pos}{x:Str}{p:Pos}{d:Addr}{aB:List (Str×D)}
set_option tactic.hygienic true in
def GC (h:∃d,X.mg x=some (.ref d)/\nQ X.K X.w.params d aB)(k:JE X a f)(c:Gl X x)(o:bB x)(F:behindInMarks .NotIn (.Name x p)=false):JT X (.Compare a [.NotIn] [.Name x p] pos) (aY (f1 (BV aB) f)):=by
 obtain⟨d,O,P⟩:=h;refine PT.to (De ((by
  rintro r s F H _ _ v u Q I O U ⟨z,rfl,rfl,q⟩;cases U
  obtain⟨t,rfl⟩:=O;obtain⟨f,b,c,o⟩:=P.map I;refine wpAny_notIn_of (strKind_is _ _ z t) c b ⟨.bl _,H,I.tok _,?_,q⟩;have:=o z;cases M:aB.lookup z with
  |none=>rw[M]at this;rw[this];rfl
  |some a=>rw[M]at this;obtain⟨_,_,e,_⟩:=this;rw[e];rfl:dj X (compareOp .NotIn) (λx y H Q=>∃z,x=.str z/\y=.ref d/\Q (.bl (!(aB.lookup z).isSome)) H))) k ( λ_ _ _ H _ I h=>xy I c O ⟨(.ref d),H,I,rr,h⟩ o) F) λW H Q q=>?_;refine cX λ_ g'=>?_;obtain⟨B,R,Z,l,e,r,M,q⟩:=p7 q;apply g';refine eX M λU S M=>⟨B,R,U.1,U.2,e,r,S,λv g m b V i=>?_⟩;obtain⟨n,j⟩:=U;cases V<;>try (simp at M;done)
 rename_i z;cases M
 exact⟨z,rr,rr,(q.into b).one b.nh (.bl _)⟩
end
section
variable {prog:Program}{w:World}{A:Around}{E:QV}{s:Shared}
def Cf {a:Addr}{o:Obj}{q:AV}{n:Nat}{x:Value}{e:Value->Bool}{j:Nat}{P:PySem.Fin->Shared->Prop}(b:s.heap.get? a=some o)(K:o.data=.seq q n)
  (R:∀y∈q,MeetsSeq.EqGives y x (e y)) (V:j<q.size) (S:e q[j]=true) (M:∀m (z:m<q.size),m<j->e q[m]=false)
  (h:P (.done (.ret (.int j s.toks))) { s with toks:=s.toks+1 }):wpAny (model prog w) A (Builtin.«tuple.index» ⟨[.ref a,x],[]⟩) P E s:=by
 show wpAny _ _ (Builtin.Tuple.tupleItemsOf _>>=_) _ _ s;refine wX (wpAny_tupleItemsOf b K ?_);refine wX (wY (wX (wY (wX ?_))));rw[Std.Legacy.Range.forIn_eq_forIn_range'];refine wpAny_forIn_list _
  (λaj r D=>r.1=none/\D=s/\∃i,i<=j/\aj=List.range' i (q.size - i))
  _ ?_ ?_ _ _ ⟨rr,rr,0,uN _,?_⟩
 .rintro k aj r D ⟨d,rfl,i,W,F⟩;have f:i<q.size:=M_
  obtain⟨m,z⟩:∃m,q.size - i=m+1:=⟨q.size - i - 1,N9⟩;rw[z]at F;injection F with O g;have O:=O.symm;subst O;have c:q[i]? = some q[i]:=H9
  simp only[c];refine wX (R _ (Array.getElem_mem _) _ w _ _ _ _ ?_);by_cases U:i=j
  .subst U;rw[S];refine wX ?_;exact wX (wpAny_mkInt (wY (wY (wY h))))
  .rw[M i _ N9];exact wY ⟨rr,rr,i+1,N9,by grind⟩
 .grind
 .simp
end
theorem CRows.findT {K:Frag}{P:Params}(y:Str){k:LD}{o:List DictEntry}{r:List (Str×D)}(h:CRows K P o r):r.lookup y=some (.tup k) ->
  ∃e a b n w,o.find? (λe=>Value.isStrOf y e.key)=some e/\e.val=.ref a/\K.lookup a=some ⟨.type "tuple",none,.seq b n,w⟩/\jF b.toList k=true:=by
 induction h with
 |nil=>intro h;simp at h
 |@tup x t _ a _ _ _ O _ _ F l f _ c=>
  intro h;by_cases e:y=x
  .subst e;rw[List.lookup_cons_self]at h;cases h
   rw[vC]at f;exact⟨_,a,_,_,_,List.find?_cons_of_pos (by simp[Value.isStrOf]),rr,l,f.2⟩
  .rw[lookup_cons,beq_eq_false_iff_ne.mpr e]at h;have M:Value.isStrOf y (Value.str x t)=false:=by
    rw[eq_false_iff];intro z;obtain⟨R,q⟩:=Value.isStrOf_shape z;simp_all
   simp only[find?_cons,M];exact c h
 |@flat x t _ u d _ _ F f _ c=>
  intro h;by_cases e:y=x
  .subst e;rw[lookup_cons,beq_self_eq_true]at h;cases h;cases u<;>cases f
  .rw[lookup_cons,beq_eq_false_iff_ne.mpr e]at h;have M:Value.isStrOf y (Value.str x t)=false:=by
    rw[eq_false_iff];intro z;obtain⟨R,q⟩:=Value.isStrOf_shape z;simp_all
   simp only[find?_cons,M];exact c h
section
variable {X:Cx}{b e:Expr}{pos:Pos}{x:Str}{p:Pos}
def aaN (K:Frag):V->LV->Hp->VK->Prop:=λx q H Q=>∃(a:Addr)(o:Obj)(c:AV)(n:Nat)(k:LS)(y:Str),x=.ref a/\q=[.str y]/\K.lookup a=some o/\o.cls=.type "tuple"/\o.data=.seq c n/\StrsAre c.toList k/\k.findIdx (· == y)<k.length/\Q (.int (k.findIdx (· == y):Nat)) H
noncomputable def Q5 (y:Str):Value->Bool
 |.str z _=>z == y
 |_=>false
theorem DE {a:LU}{k:LS}(h:StrsAre a k):∀(i)c,∃(h:i<k.length)(t:Tok),a[i]=.str k[i] t:=by
 induction h with
 |nil=>intro i c;simp at c
 |cons z t _ n=>intro i c;cases i with
  |zero=>exact⟨H9,t,rr⟩
  |succ i=>obtain⟨o,q,e⟩:=n i (by simpa using c);simp_all
theorem zY {a:LU}{c:LS}(h:StrsAre a c):a.length=c.length:=h.rec rr λ_ _ _ _ _ i=>congrArg _ i
@[simp] def mK (c:List (Str×D)):D->D->OB
 |.str y,.str z=>match c.lookup y with
  |some (.tup k)=>(fU k).bind λa=>if a.findIdx (· == z)<a.length then some (.int (a.findIdx (· == z):Nat),false)else none
  |_=>none
 |_,_=>none
set_option tactic.hygienic true in
def Og {aB:List (Str×D)}{f g:FE}{cn bM:Pos}(h:∃d,X.mg x=some (.ref d)/\nQ X.K X.w.params d aB)(hb:JE X b f)(he:JE X e g)(E:Gl X x)(c:bB x)(hs:nD b)
  (O:attributeBase (.Subscript (.Name x p) b pos) "index" X.env (eval (.Subscript (.Name x p) b pos) X.env)=eval (.Subscript (.Name x p) b pos) X.env)
  (G:qi bM e X.env)
  (U:(cn.endLine == bM.line)=true) (o:d4 e X.env):
  JE X (.Call (.Attribute (.Subscript (.Name x p) b pos) "index" cn) [e] [] bM) (f2 (mK aB) f g):=by
 obtain⟨d,hm,cd⟩:=h;have J:RG X (λx y H Q=>∃z ds,x=.ref d/\y=.str z/\aB.lookup z=some (.tup ds)/\∀a its n pv,X.K.lookup a=some ⟨.type "tuple",none,.seq its n,pv⟩->jF its.toList ds=true->Q (.ref a) H):=by
  intro i j ag s σ H x y v u Q I L N q hs;obtain⟨z,ds,rfl,rfl,k,q⟩:=q;cases L
  refine cX λ_ g'=>?_;obtain⟨t,rfl⟩:=N;obtain⟨es,n,l,r,sm⟩:=cd;have A:=PySem.W.mapOf_K (prog:=X.prog) I.kIn l r.lit;obtain⟨en,a,its,n',pv,e1,e2,P,R⟩:=r.findT z k;apply g';exact tail_any A.typeIs slot_dict_getitem.lookup (wpAny_getItem_of (strKind_is X.prog X.w z t) A (by
   simp_all[findBy]) ⟨.ref a,H,I.tok _,rr,q a _ _ _ P R⟩) hs
 refine PE.to (yV PySem.F.plainAttrs_tuple PySem.F.slot_tuple_index PySem.F.type_tuple_index (by
  intro A s B H x C v E Q I c d h;obtain⟨a,o,r,n,R,y,rfl,rfl,f,W,Z,V,g,q⟩:=h;cases c
  obtain⟨u,rfl,⟨t,rfl⟩⟩:=d.one;have U:=I.kIn a o f;have j:=zY V;rw[vG]at j;have k:∀(i:Nat)(D:i<r.size),∃(h:i<R.length)(t:Tok),r[i]=.str R[i] t:=λi D=>by
   obtain⟨l,P,e⟩:=DE V i (by simpa using D);exact⟨l,P,by simpa using e⟩
  refine wpAny_call_entry PySem.F.slot_tuple_index ⟨o,U,W⟩ PySem.F.entry_tuple_index (Cf (e:=Q5 y) U Z (λz S=>?_) N9 ?_ (λm S O=>?_) ⟨_,rr,.int _,H,I.tok _,⟨_,rr⟩,q⟩) (PySem.F.args_tuple_index_2 _ _)
  .obtain⟨i,D,rfl⟩:=Array.mem_iff_getElem.mp S;obtain⟨_,P,M⟩:=k i D;rw[M];exact eqGives_str _ _ _ _
  .obtain⟨_,P,M⟩:=k (R.findIdx (· == y)) N9;rw[M];exact List.findIdx_getElem (w:=g)
  .obtain⟨_,P,M⟩:=k m S;rw[M];have:=List.not_of_lt_findIdx O;simpa [Q5]using this:VA X "tuple.index" (aaN X.K)) (IA J ( λ_ _ _ H _ I h=>xy I E hm ⟨(.ref d),H,I,rr,h⟩ c) hb hs) (dI he gJ o) O G U o rr) λσ H Q q=>?_;refine cX λ_ g'=>?_;obtain⟨B,ρ,d',bb,T,r,M,q⟩:=q;apply g';refine eX M λV ex M=>?_;refine eX M λY Z M=>?_;obtain⟨xd,xb⟩:=V;obtain⟨yd,yb⟩:=Y;cases xd with
 |str z=>
  cases yd with
  |str y=>
   refine⟨B,ρ,_,xb,T,r,ex,λv H1 N1 m i1 _=>?_⟩;cases i1
   simp only[mK]at M;split at M
   .rename_i ds k;refine eX M λzs ez M=>?_;split at M
    .rename_i hk;cases M
     refine⟨z,ds,rr,rr,k,λa its n pv l fl=>⟨.inr (.inl ⟨rr,_,l,rr,rr⟩),N1,ρ,_,yb,m.nh,r.mono m.bn,Z,λv2 H2 N2 C i2 _=>?_⟩⟩;cases i2
     obtain⟨vs,rv,iv⟩:=jG (K:=X.K) fl;exact⟨a,_,its,n,zs,y,rr,rr,l,rr,rr,jp rv (iv N2) ez,hk,(q.into (m.trans C)).one C.nh (.int _)⟩
    simp_all
   simp_all
  |_=>simp[mK]at M
 |_=>simp[mK]at M
end
open PySem.W (tabIn tabObj CodeHd kla_fn kla_obj kla_eval kla_makeFunction kla_makeFunctionHit kla_callFunE kla_codeExpr envX)
def W6 (K:Frag)(c P:Addr):Prop:=∃o k O a M q b U d,K.lookup c=some o/\o.cls=.type "code"/\o.data=.fields k/\k[11]? = some (.ref P)/\k.getD 11 .none=.ref P/\k.getD 18 .none=.str O a /\
 k.getD 7 .none=.int M q/\k.getD 9 .none=.bool b/\k.getD 10 .none=.int U d/\c≠P
def zZ (K:Frag)(x:Str):Prop:=∃c P,tabIn K x=some (c,P)/\W6 K c P
def JQ (H:Hp)(f:Addr)(q:Str)(a:Arguments)(M:Expr)(b:Scope)(r:List (Str×Addr)):Prop:=
 ∃w c O u k z o t,H f=some (.frz (kla_obj "<lambda>" q a M b r w c O) u)/\H c=some (.frz k z)/\k.data=.fields o/\o[1]? = some (.str q t)
def JQ.mono (h:JQ H f q d O g i)(e:aS H j):JQ j f q d O g i:=by obtain⟨a,c,M,u,b,k,o,t,r,w,z,D⟩:=h;exact⟨a,c,M,u,b,k,o,t,e _ _ r,e _ _ w,z,D⟩
def lam_mk {K:Frag}{x:Str}{f c P:Addr}{F:Value}{R b:Option Addr}{S d:Array (Option Value)}{w:FuncData}{r:AV}{O:Str}{e D g:Tok}{M U:Int}{h:Bool}(k:nsIn K mainGlobals x=some (some (.ref f)))(V:K.lookup f=some ⟨F,R,.func w,S⟩)
  (l:w.code=.ref c) (i:K.lookup c=some ⟨.type "code",b,.fields r,d⟩) (j:r[11]? = some (.ref P)) (m:r.getD 11 .none=.ref P) (n:r.getD 18 .none=.str O e) (o:r.getD 7 .none=.int M D) (p:r.getD 9 .none=.bool h) (q:r.getD 10 .none=.int U g) (a:(c == P)=false):zZ K x:=
 ⟨c,P,by simp_all[PySem.W.tabIn],_,r,O,e,M,D,h,U,g,i,rr,rr,j,m,n,o,p,q,λz=>by rw[z]at a;simp at a⟩
def Cg l(h:TriplesOk l)(e:codeAmong U (l++[rawInt a,rawInt b,c])=some d):codeAmong U l=some d\/d=c:=by
 fun_induction TriplesOk l with
 |case1=>
  simp_all[rawInt,codeAmong]
 |case2 M t k u x aj O=>
  simp only[cons_append,codeAmong]at e |-;split<;>simp_all
 |case3 l o q=>exact h.elim
section
variable {X:Cx}{ag:AO}{σ:St}{H:Hp}{s:Shared}
def JR
  (hx:x∈kE) (L:zZ X.K x) (hc:∀c P,tabIn X.K x=some (c,P)->X.env.code=.ref c) (hq:X.env.qual ++ "<lambda>" = uH x) (y:defaultsOf params X.env=([],[])) (Y:closureFor scope X.env=pure cl)
  (I:Inv X ag σ H s) (tb:Tb X.K H) (k:∀f H' s',Inv X ag σ H' s'->aS H H'->JQ H' f (uH x) params body scope cl->Q (.ref f) s'):
  wq X (eval (.Lambda params body scope pos) X.env) Q E s:=by
 refine kla_eval y ?_;rw[hq];refine cX λ_ g'=>?_;obtain⟨c,P,Z,o,vs,A,tf,Zp,tg,UW,B,tt,lk,ck⟩:=L;have O:=hc c P Z;have D:=tb x hx c P Z;obtain⟨ps,e,F,co⟩:=I.hok P _ D;apply g';have C:CodeHd s.heap c P:=⟨o,vs,A,tf,Zp,tg,UW,B,tt,I.kIn c o lk,ck⟩;have hg:s.heap.Ns mainGlobals X.mg:=I.mod.glob.keeps I.bk;have l:∀b,H b=none->b≠P:=λb n z=>by rw[z,D]at n;cases n
 have G:mainGlobals≠P:=by
  obtain⟨og,_,_,eg,_⟩:=I.mod.glob;exact l _ (I.bs _ _ eg).2
 have hb:s.heap.BuiltinsAt X.mg P:=by
  obtain⟨bm,ob,b1,b2,b3,b4,b5,b6⟩:=I.mod.bmain;refine⟨bm,ob,b1,b2,λz=>?_,l _ (I.bs _ _ b3).2,I.bk _ _ b3,b4,b5,b6⟩;obtain⟨og,es,ep,eg,dg,_⟩:=I.mod.glob;simp_all
 cases hf:codeAmong pos ps.toList with
 |some cv=>
  refine cX λ_ g'=>?_;obtain⟨M,oc,u,ws,t,rfl,hH,hd,hv⟩:=co pos cv hf;apply g';refine kla_makeFunctionHit (mg:=X.mg) Y I.ok.glob hg O C e F hf hb λU h' tk hk hsz=>?_;have hn:H h'.objs.size=none:=I.hok.fresh hsz;have a:aS H (upd H h'.objs.size (.frz (kla_obj "<lambda>" (uH x) params body scope cl ((X.mg "__name__").getD .none) M U) (.own h'.objs.size))):=λb u q=>by rw[a8 (aV q hn)];exact q
  refine k _ _ _ (I.laid (t':=tk) (λb u q=>vZ _ (hk b u q)) hsz (show bA X.prog X.w _ _ _ (.frz _ (.own h'.objs.size))from ⟨vY _ rr,_,vY _ rr⟩)) a ?_;exact⟨_,M,U,_,oc,u,ws,t,av,a _ _ hH,hd,hv⟩
 |none=>
  refine kla_makeFunction (mg:=X.mg) Y I.ok.glob hg O C e F hf G hb λM U h' tk hx' g qM i J=>?_;obtain⟨c2,oc,ws,t,e2,QU,hd,hv⟩:=i;cases e2
  have N:H M=none:=I.hok.fresh g;have hsz:s.z<=h'.objs.size:=vR g (le_of_lt qM);have R:H h'.objs.size=none:=I.hok.fresh hsz;have S:M≠h'.objs.size:=vS qM;let fo:Obj:=kla_obj "<lambda>" (uH x) params body scope cl ((X.mg "__name__").getD .none) M U;let m:Hp:=upd (upd H M (.frz oc (.own M))) h'.objs.size (.frz fo (.own h'.objs.size));have a:aS H m:=λb u q=>by
   show upd _ _ _ b=_;rw[a8 (aV q R),a8 (aV q N)];exact q
  have h:m M=some (.frz oc (.own M)):=by show upd _ _ _ M=_;rw[a8 S,av]
  have keep:∀b u,b≠P->s.heap.get? b=some u->(h'.push fo).get? b=some u:=λb u n q=>vZ _ (hx' b u n q);have lt:∀b u,s.heap.get? b=some u->b≠M/\b≠h'.objs.size:=λb u q=>⟨vS (vQ (vX q) g),vS (vQ (vX q) hsz)⟩;have Zq:(h'.push fo).get? P=some (tabObj (ps++#[rawInt pos.line,rawInt pos.col,.ref M])):=vZ _ J;refine k _ m _ (I.un (t':=tk) (h':=h'.push fo) ⟨λb u q n _ _=>keep b u (l b n) q,λb u q n _ _=>⟨u.slots,keep b u (l b n) q⟩,λb u q n _=>?_,λb u q _=>?_,λb xs q=>a _ _ q,λb ob u q=>a _ _ q,λb u q=>a _ _ q⟩ λb u q=>?_) a ⟨_,M,U,_,oc,_,ws,t,av,h,hd,hv⟩
  .show upd _ _ _ b=_;rw[a8 (lt b u q).2,a8 (lt b u q).1];exact n
  .by_cases z:b=P
   .subst z;exact⟨_,Zq⟩
   .exact⟨u,keep b u z q⟩
  .by_cases z1:b=h'.objs.size
   .subst z1;have j:some (HO.frz fo (.own h'.objs.size))=some u:=by rw[<-q];exact av.symm
    cases j
    exact⟨vY _ rr,_,vY _ rr⟩
   .by_cases z2:b=M
    .subst z2;rw[h]at q;cases q;exact⟨vZ _ QU,_,vZ _ QU⟩
    .have j:H b=some u:=by
      have:m b=H b:=by show upd _ _ _ b=_;rw[a8 z1,a8 z2]
      rw[<-this];exact q
     by_cases z3:b=P
     .subst z3;rw[D]at j;cases j;refine⟨_,Zq,?_,λMv T p=>?_⟩
      .simp_all[TriplesOk_snoc]
      .rw[Array.toList_append]at p;rcases Cg _ F p with p|rfl
       .refine cX λ_ g'=>?_;obtain⟨c3,V,u3,W,t3,y1,y2,y3⟩:=co Mv T p;apply g';exact⟨c3,V,u3,W,t3,y1,a _ _ y2,y3⟩
       .exact⟨M,oc,_,ws,t,rr,h,hd,hv⟩
     .refine(I.hok b u j).stay (λd v ZW r=>keep d v ?_ r) (λd r=>a _ _ r) (λd xs r=>a _ _ r) λd ob v r=>a _ _ r;simp_all<;>lia
end
section
variable {P:Program}{w:World}{K:Frag}{mg:SV}{base:Heap}
def Dy.fnL {x:Str}{V:Stmt}{N R:LS}{k:Nat}{g:FS}{h:Heap}(F:Dy K x V)(X:K.In h)(G:h.Ns mainGlobals mg)(S:FnScope N R (aM V))
  (O:∀(kV Z Y:Value)(an:Option Addr)(W ct:Value)(J:LU),J.length=R.length->bindArgs (fnOf x x (gR V) (cr V) (aM V) .none kV Z Y an W ct) ⟨J,[]⟩=pure (R.zip J))
  (hb:∀(f:Addr)(W:Value)(A:Around)(D:List PySem.Env)(s:Shared)(H:Hp)(E:XK),(∀c P,tabIn K x=some (c,P)->W=.ref c)->eQ k (A.deeper (envOfC x (aM V) s.z f W))->ze (rQ Bw P w K mg base N x (aM V) f W A D s H E).nox (cr V) g):
  Fn P w K mg base (k+1) x (a0 g R.length (N.length - R.length)):=by
 refine cX λ_ g'=>?_;obtain⟨f,fd,U,a⟩:=F;have o:=U;obtain⟨oc,od,kV,Z,Y,an,W,ct,pv,rfl,n,p⟩:=o.ex;apply g';have hc:∀c P,tabIn K x=some (c,P)->W=.ref c:=λc P e=>by
  unfold tabIn at e;simp only[a,n]at e;split at e
  .split at e
   .split at e
    .cases e;rfl
    .cases e
   .cases e
  .cases e
 have C:∀I H Q E,M9 K (a0 g R.length (N.length - R.length)) I H Q E->I.length=R.length:=λI H Q E h=>by
  obtain⟨B,ds,d,b,j,i,e,q⟩:=h;unfold a0 at e;split at e
  .rename_i hl;rw[i.length];exact hl
  simp_all
 refine⟨f,_,R,Qu n p S C λA D s H I Q E r h=>⟨_,vn.nox (hb f W A D s H E hc r),?_⟩,mg_of X G a,U.kp,U.binds O⟩;have M:=C I H Q E h;refine cX λ_ g'=>?_;obtain⟨B,ds,d,b,j,i,e,q⟩:=h;apply g';unfold a0 at e;rw[if_pos (by rw[<-i.length];exact M)]at e;have l:=zi (N:=N) j.1 j.2 i;rw[M]at l;split at e
 .rename_i d' b' m;cases e
  exact⟨B,H,_,_,⟨B,l⟩,m,λv L T t u y=>q v L T t u y⟩
 .rename_i ρ' m;cases e
  exact⟨B,H,_,_,⟨B,l⟩,m,λz L ⟨T,s'⟩=>q .non L T s'.ext .non H9⟩
 simp_all
end
inductive lA (X:Cx)(N':List Str)(scope:Scope)(cl:List (Str×Addr)):Nat->List Nat->Prop where
 |nil {j:Nat}(h:N'.length=j):lA X N' scope cl j []
 |cons {j i:Nat}{r:List Nat}{x:Str}(h1:N'[j]? = some x) (h2:X.N[i]? = some x) (h3:X.env.kindOf x=some .cell\/X.env.kindOf x=some .free)
   (h4:scope.names.lookup x=some .free) (h5:cl.lookup x=X.env.cells.lookup x) (t:lA X N' scope cl (j+1) r):lA X N' scope cl j (i::r)
theorem lA.len {j:Nat}{a:LN}(h:lA X e d f j a):e.length=j+a.length:=by
 induction h with
 |nil h=>rw[h];rfl
 |cons _ _ _ _ _ _ i=>rw[i,vE];lia
theorem lA.get:∀ {j:Nat}{a:LN}{k i:Nat},lA X f d g j a->a[k]? = some i->∃x,f[j+k]? = some x/\X.N[i]? = some x/\(X.env.kindOf x=some .cell\/X.env.kindOf x=some .free) /\
  d.names.lookup x=some .free/\g.lookup x=X.env.cells.lookup x
 |_,_,_,_,.nil _,e=>by simp at e
 |j,_,0,_,.cons b c o w z _,e=>by simp at e;subst e;exact⟨_,b,c,o,w,z⟩
 |j,_,k+1,i,.cons _ _ _ _ _ t,e=>by
  obtain⟨x,q,r⟩:=t.get (by simpa using e);exact⟨x,N9,r⟩
noncomputable abbrev Aa (X:Cx)(k:LS)(a:Scope)(b:List (Str×Addr))(q:Str)(A:Around)(f c:Addr)(s:Shared)(H:Hp):Cx:=
 { X with A:=A.deeper (envX q a s.z f (.ref c) b),N:=k,s₀:=s,H₀:=H,env:=envX q a s.z f (.ref c) b,outer:=X.stack,stack:=envX q a s.z f (.ref c) b::X.stack,ex:=[],fn:=λy=>false,calm:=true,pn:=[],xe:=λy y=>False }
structure LamSc (X:Cx)(scope:Scope)(cl:List (Str×Addr))(y:Str):Prop where
 clos:closureFor scope X.env=pure cl
 nocell:∀z∈scope.names,z.2≠.cell
 kind:scope.kind=.function
 co:scope.isCoroutine=false
 gen:scope.isGenerator=false
 par:scope.names.lookup y=some .local
 sub:∀x c,cl.lookup x=some c->X.env.cells.lookup x=some c
 has:∀x,scope.names.lookup x=some .free->∃c,cl.lookup x=some c
def W7 (b:∀z∈f.names,z.2≠.cell)(k:f.kind=.function)(o:f.isCoroutine=false)(M:f.isGenerator=false)(r:f.names.lookup y=some .local)
  (O:(f.names.all λz=>!(z.2 == NameKind.free) || (X.env.cells.lookup z.1).isSome)=true):LamSc X f (eC f.names X.env.cells []) y:=by
 have a:∀z∈f.names,z.2=.free->(X.env.cells.lookup z.1).isSome=true:=λz w e=>by
  grind
 exact⟨vz _ [] a,b,k,o,M,r,λx c=>nI _ [] (λy d q=>by cases q),λx h=>by
  exact uU (nJ _ [] (gZ h) (a _ (gZ h) rr))⟩
section
variable {X:Cx}{ag:AO}{σ:St}{H:Hp}{s:Shared}{A:Around}{N':LS}{scope:Scope}{cl:List (Str×Addr)}{q y:Str}{cap:LN}
def Oh (S:LamSc X scope cl y)(B:N'[0]? = some y)(T:lA X N' scope cl 1 cap)(I:Inv X ag σ H s)(C:A.frames=some X.stack)(Y:A.handled=none)(r:aI v u)
  (D:N.Ns s.z (λx=>[(y,u)].reverse.lookup x)) (V:∀b o,s.heap.get? b=some o->N.get? b=some o):
  Inv (Aa X N' scope cl q A f c s H) [] (some v::zf 0 cap σ) H { s with heap:=N,toks:=tk }:=by
 have M:∀b:Addr,b∉(Aa X N' scope cl q A f c s H).ex:=λb z=>absurd (show b∈([]:List Addr)from z) H9;refine⟨⟨I.ok.mod,S.kind,rr,rr,vT _,λx z d g W=>I.ok.inj x z d (S.sub _ _ g) (S.sub _ _ W),λx hx=>?_,(λx d e=>by cases e),λj=>Y,Around.frames_deeper C,.inr ⟨rr,rr⟩,λb z=>absurd z (M b),I.bs,vR I.ok.bsz I.sz,λb j j=>M b,λb z=>absurd z (M b),I.stack,I.stkFree⟩,
  rr,I.bare,Un.kept V,⟨_,D,λi x n g W K=>?_⟩,λx d e=>?_,I.hok.fresh (vT _),λx d e=>I.freeC x d (S.sub _ _ e),λp hp=>absurd (show p∈([]:AO)from hp) H9,I.hok.kept V,?_⟩
 .have P:=hx;rcases P with P|P
  .exact absurd rr (S.nocell _ (gZ P))
  .exact S.has x P
 .cases i with
  |zero=>
   have U:=g;rw[B]at U;cases U;have O:=by simpa using W
   cases O
   exact⟨u,r,.inl ⟨S.par,H9⟩⟩
  |succ k=>
   have O:=by simpa using W
   obtain⟨k',h,L,g1,a⟩:=xK O;have:k=k':=N9
   subst this;obtain⟨t,n1,n2,R,E,F⟩:=T.get g1;have:t=x:=by
    lia
   subst this;obtain⟨m,j,hl⟩:=I.loc;obtain⟨u',ru,G⟩:=hl h t n n2 (by
    cases z:σ[h]? with
    |none=>rw[z]at a;cases a
    |some w=>rw[z]at a;cases w with
     |none=>cases a
     |some w=>cases a;rfl) (by
    rcases R with R|R
    .exact .inr (.inl R)
    .exact .inr (.inr R))
   refine⟨u',ru,.inr ⟨.inr E,?_⟩⟩;rcases G with⟨l1,j⟩|⟨j,d,l2,J⟩
   .lia
   .obtain⟨Z,l,Q⟩:=J;exact⟨d,by rw[F];exact l2,Z,V _ _ l,Q⟩
 .obtain⟨w,Z,l,Q⟩:=I.cell x d (S.sub _ _ e);exact⟨w,Z,V _ _ l,Q⟩
 .have:=T.len;unfold zf;rw[this];simp;lia
def Oi (S:LamSc X scope cl y)(l:N'[0]? = some y)(cp:lA X N' scope cl 1 cap)(I:Inv X ag σ H s)
  (m:A.frames=some X.stack) (hh:A.handled=none) (M:A.depth<recursionLimit) (n:JQ H f q Y body scope cl)
  (O:∀pm c h u,bindArgs (kla_fn "<lambda>" q Y body scope cl pm (.ref c) h) ⟨[u],[]⟩=pure [(y,u)])
  (hb:∀(f c:Addr)(s:Shared)(H:Hp),JE (Aa X N' scope cl q A f c s H) body fb)
  (V:fQ X.K B σ ρ) (p:aS B H) (r:aI v u) (i:Is X.K B v d) (e:fb (some (d,false)::cR 0 cap ρ)=some (d',b')) (x:Fin X.K B H d' b' Q):
  wpAny (model X.prog X.w) A (call (.ref f) [u]) (EP X ag σ Q) (λ_ _=>False) s:=by
 refine cX λ_ g'=>?_;obtain⟨pm,c,h,T,oc,u',ws,t,hf,hc,hd,hv⟩:=n;apply g';have C:=(I.hok f _ hf).1;have D:=(I.hok c _ hc).1;refine wpAny_call (codeAny_mono (R:=λr Z=>CR Bw X.stack X.prog X.w H s Q (λ_ _ _=>False) r Z) ?_ λr Z W=>?_)
 .refine kla_callFunE M C rr S.co S.gen rr ⟨c,oc,ws,t,rr,D,hd,hv⟩ ?_;rw[O];refine wY (wpAny_newFunctionEnv S.nocell (λz hz=>by rw[uT hz];exact S.par) (λk E a=>⟨I.nolimit.fresh _ a,?_⟩) S.kind);have U:=λb o e=>a.extBut b o (vS (vX e)) (vZ _ e);have J:=Oh (f:=f) (c:=c) (q:=q) (tk:=s.toks+1) S l cp I m hh r E U;refine kla_codeExpr (wpAny_mono (hb f c s H [] _ _ H Q J ⟨B,_,d',b',p,⟨V.tb,λj F G z=>?_⟩,e,x⟩) (λw Z hw=>?_) λ_ _ z=>z.elim)
  .cases j with
   |zero=>
    simp_all
   |succ j=>
    obtain⟨w,h1,h2⟩:=(V.caps ).at' j F G (by simpa using z);simp_all
  .obtain⟨L,H',g,N,P⟩:=hw;exact⟨L,H',g.os,g.bare,g.base,g.hok,N,P⟩
 .cases r with
  |error e=>exact False.elim W
  |ok fl=>
   cases fl with
   |ret w=>exact I.after W
   |next=>exact False.elim W
   |brk=>exact False.elim W
   |cont=>exact False.elim W
end
end DL
namespace DL
open PySem PySem.Spec PySem.W PyProof.Rows L2
section
variable {X:Cx}{ag:AO}{σ:St}{H:Hp}{s:Shared}{h':Heap}{t':Nat}
def pH (I:Inv X ((p,o)::ag) σ H s):∀x c,X.env.cells.lookup x=some c->c≠p:=λx c e z=>by
 have M:=I.pin _ (mY _ mX);obtain⟨v,a,O,b⟩:=I.cell x c e;simp_all
def kM (I:Inv X (p::ag) σ H s):Inv X ag σ H s:=I.pins_of λq a=>I.pin q (mY _ (mZ _ a))
def hJ (I:Inv X ((p,o)::ag) σ H s)(c:X.s₀.z<=p)(r:∀q∈X.pn++ag,q.1≠p)(k:∀b u,b≠p->s.heap.get? b=some u->h'.get? b=some u)(O:h'.get? p=some d)(U:∀v,d.data≠.cell v):
  Inv X ((p,d)::ag) σ H { s with heap:=h',toks:=t' }:=by
 have M:=I.pin _ (mY _ mX);have J:=(kM I).turned (t':=t') k M.2.1 M.2.2.1 (.inr c) (pH I) r;refine J.pins_of λq a=>?_;rcases vP a with rfl|a
 .simp_all
 .exact J.pin q (mY _ a)
def qZ (I:Inv X ag σ H s)(k:∀b u,s.heap.get? b=some u->h'.get? b=some u)(a:s.z<=p)(M:h'.get? p=some o)(O:∀v,o.data≠.cell v):Inv X ((p,o)::ag) σ H { s with heap:=h',toks:=t' }:=by
 have J:=I.kept (t':=t') k;refine J.pins_of λq c=>?_;rcases vP c with rfl|c
 .exact⟨M,I.hok.fresh a,ne_of_gt (vQ I.lt a),I.nofs a,O⟩
 .exact J.pin q (mY _ c)
def Ol (I:Inv X ((p,o)::ag) σ H s)(P:X.s₀.z<=p)(R:∀q∈X.pn++ag,q.1≠p)(k:∀b u,b≠p->s.heap.get? b=some u->h'.get? b=some u)(d:∃u,h'.get? p=some u)
  (S:bA X.prog X.w (upd H p ob) h' p ob):Inv X ag σ (upd H p ob) { s with heap:=h',toks:=t' }:=by
 have M:=I.pin (p,o) (mY _ mX);have F:=M.2.1;have V:=pH I;refine(kM I).step (g':=s.gens) (d':=s.drawn) (ch:=[p]) (λb W=>?_) (λb u y y D e y=>k b u (λz=>D (by simp[z])) e) (λb u y y D e y=>⟨u.slots,k b u (λz=>D (by simp[z])) e⟩) (λb u D y n=>by simp_all[a8])
  (λb u D e=>⟨u,k b u (λz=>D (by simp[z])) e⟩) (λb K e=>by rw[a8 (aV e F)];exact e) (λb u w e=>by rw[a8 (aV e F)];exact e) (λb q e=>by rw[a8 (aV e F)];exact e) (λm Z=>?_) (λb u e=>?_) I.bare
 .have z:b=p:=by simpa using W
  subst z;exact⟨.inr P,M.2.2.1,V,R⟩
 .obtain⟨O,f,U,a,r⟩:=Z;exact⟨O,f,U,k _ O (λz=>M.2.2.1 z.symm) a,r⟩
 .by_cases z:b=p
  .simp_all[av]
  .rw[a8 z]at e;refine(I.hok b u e).stay (λc v D q=>k c v ?_ q) (λc q=>?_) (λc K q=>?_) λc w K q=>?_
   .lia
   .rw[a8 (aV q F)];exact q
   .rw[a8 (aV q F)];exact q
   .rw[a8 (aV q F)];exact q
end
def wy (X:Cx)(A:Around)(b:St)(M:Value)(B O:Hp)(U:D->Option D):Prop:=
 ∀(c:AO)(s:Shared)(H N:Hp)(v:V)(u:Value)(d k:D),Inv X c b H s->aS O H->aS B N->aS N H->Is X.K N v d->aI v u->U d=some k ->
  wpAny (model X.prog X.w) A (call M [u]) (EP X c b λa q=>∃o,Ext N o H q/\Is X.K o a k) (λz z=>False) s
def JK (X:Cx)(A:Around)(e:Expr)(U:Env->D->Option D):Prop:=∀(b:AO)(s:Shared)(a:St)(H B:Hp)(c:Env)(Q:QV)(E:QV),Inv X b a H s->aS B H->fQ X.K B a c ->
 (∀O M k,Inv X b a M k->aS H M->wy X A a (.ref O) B M (U c)->Q (.ref O) k)->wq X (eval e X.env) Q E s
section
variable {X:Cx}{A:Around}
@[simp] def Ab (a:LN)(M:FE):Env->D->Option D:=λb d=>(M (some (d,false)::cR 0 a b)).map (·.1)
def SU (hx:x∈kE)(L:zZ X.K x)(F:∀c P,tabIn X.K x=some (c,P)->X.env.code=.ref c)(R:X.env.qual ++ "<lambda>" = uH x)
  (O:defaultsOf J X.env=([],[])) (S:LamSc X G (eC G.names X.env.cells []) y) (b:Y[0]? = some y) (V:lA X Y G (eC G.names X.env.cells []) 1 cap) (g:A.frames=X.A.frames) (U:eQ (k+1) A)
  (M:∀W c h u,bindArgs (kla_fn "<lambda>" (uH x) J T G (eC G.names X.env.cells []) W (.ref c) h) ⟨[u],[]⟩=pure [(y,u)])
  (Z:∀(f c:Addr)(s:Shared)(H:Hp),eQ k (Aa X Y G (eC G.names X.env.cells []) (uH x) A f c s H).A->JE (Aa X Y G (eC G.names X.env.cells []) (uH x) A f c s H) T fb):JK X A (.Lambda J T G pos) (Ab cap fb):=by
 intro ag s σ H B ρ Q E I i D j;refine JR hx L F R O S.clos I (D.tb.mono i) λf l s1 m n o=>j f l s1 m n ?_;intro w s' H' N v u d d' a m1 m2 p iv r e;obtain⟨⟨z,b2⟩,q,e2⟩:=oY e;cases e2
 exact Oi S b V a (g.trans a.ok.frames) U.hd U.depth (o.mono m1) M (λf c s H=>Z f c s H (U.deeper _)) (D.mono m2) p r iv q λC H2 N2 t i2 _=>⟨N2,t,i2⟩
@[simp] noncomputable def GD (g:LD->OB):Env->D->Option D:=λz d=>(g [d]).map (·.1)
def Q6 (F:Fn X.prog X.w X.K X.mg X.base k x g)(h:eQ k A)(i:A.frames=X.A.frames)(j:Gl X x)(O:bB x):JK X A (.Name x p) (GD g):=by
 intro ag s σ H B ρ Q E I q D l;obtain⟨ad,fd,Z,b,t,hk,y⟩:=F.ex;refine xy I j t ?_ O;refine l ad H s I (.refl H) ?_;intro U P R N v u d d' a m1 C m G r e;obtain⟨⟨c,J⟩,n,L⟩:=oY e;cases L
 have S:M9 _ g _ R (λf V=>∃W,Ext N W R V/\Is _ W f c) (λ_ _ _=>False):=⟨N,[d],c,J,⟨m,D.tb.mono C⟩,.cons G .nil,n,λf V T o Y _=>⟨T,o,Y⟩⟩;have M:=a.env0;have bb:=y P [u] a.kIn (by simpa using by have:=b.len _ _ _ _ S;omega);refine wpAny_call (codeAny_mono (b.run A _ P R _ _ _ _ _ h ⟨i.trans M.frames,M.mod,M.bs,M.bsz,M.funs,M.frf,M.hok,M.bare⟩ bb (.cons r .nil) S) λr P z=>?_);cases r with
 |error e=>exact False.elim z
 |ok fl=>
  cases fl with
  |ret w=>exact a.after z
  |next=>exact False.elim z
  |brk=>exact False.elim z
  |cont=>exact False.elim z
end
noncomputable def jt (f:D->Option D):LD->Option LD
 |[]=>some []
 |d::a=>(f d).bind λx=>(jt f a).map (x :: ·)
theorem kO:∀ {b c:LD},jt f b=some c->c.length=b.length
 |[],_,h=>by simp_all[jt]
 |d::b,_,h=>by
  refine eX h λa o h=>eS h λr k h=>?_;subst h;simp[kO k]
theorem sJ:∀ {b c:LD},jt f b=some c->∀ {i:Nat}{d:D},b[i]? = some d->∃k,c[i]? = some k/\f d=some k
 |[],_,h,i,d,e=>by simp at e
 |d::b,_,h,0,e,q=>by
  refine eX h λa w h=>eS h λr o h=>?_;grind
 |d::b,_,h,i+1,e,q=>by
  refine eX h λa w h=>eS h λr o h=>?_;subst h;obtain⟨k,M,O⟩:=sJ o (by simpa using q);simp_all
structure KK (X:Cx)(A:Around)(kd:List D->Option (List (List At)))(ok:List (List At)->Bool):Prop where
 len:∀ {ds:List D}{ks:List (List At)},kd ds=some ks->ks.length=ds.length
 ask:∀ {ag:List (Addr×Obj)}{σ:St}{H:Hp}{s:Shared}(_:Inv X ag σ H s) {ys:List V}{ds:List D}{ks:List (List At)}{its:List Value},bd ys its->IsL X.K H ys ds->kd ds=some ks->ok ks=true->cz ks=true ->
  (0<ks.length->∀ {E:Value->Shared->Prop}{Q:SortKind->Shared->Prop},Q (tuples' true) s->wpAny (model X.prog X.w) A (keyKind' its.toArray) Q E s) /\
  ∀(i j:Nat)(C:Bool->Shared->Prop)(s1:Shared),i<ks.length->j<ks.length->s1=s->(∀s',s'=s->C (sA (DA ks) i j) s')->kas_ask X.prog X.w A (tuples' true) its i j C s1
def SW:KK X A dQ c6:=⟨lK,λI z z z z r i e b c=>have a:=oh I r i e;⟨λk z z=>zS a b k,DB c a⟩⟩
section
variable {X:Cx}{ag:AO}{σ:St}{s:Shared}
theorem wz (r:aI x u){a:LV}{b:LU}(h:bd a b):bd (a++[x]) (b++[u]):=h.append (.cons r .nil)
def da:∀v,(Obj.mk c e (.seq d n) f).data≠.cell v:=λv z=>by cases z
def Ch
  (I:Inv X ((a,seqObj "list" its.toArray n)::ag) σ H s) (h0:X.s₀.z<=a) (hp:∀q∈X.pn++ag,q.1≠a) (FV:wy X A σ qv B H kf) (x:bd vs its) (iv:IsL X.K B vs ds) (sB:aS B H)
  (M:KK X A kd ok) (Z:jt kf ds=some j8) (ek:kd j8=some ks) (hc:cz ks=true) (hf:ok ks=true) (CZ:its.length<64)
  (h:∀(p:Array Nat)(s':Shared)(H' N:Hp),px its.length p->Up (DA ks) p its.length->Inv X ag σ (upd H' a (.lst (p.toList.map λi=>vs.getD i .non))) s'->Ext B N H H'->H' a=none->P (.done (.ret .none)) s'):
  wpAny (model X.prog X.w) A (ksk_tree a qv false) P E s:=by
 have t:=I.pin (a,seqObj "list" its.toArray n) (mY _ mX)
 have B5:vs.length=its.length:=x.length
 have MI:ds.length=vs.length:=iv.length.symm
 have hkd:j8.length=ds.length:=kO Z
 have hks:ks.length=j8.length:=M.len ek
 have hz:its.length<=sizeLine:=by rw[sizeLine_eq];lia
 have hna:H a=none:=t.2.1
 obtain⟨U,Qj⟩:∃U,(s.heap.update a (Obj.mapSeq λ_=>(#[]:AV))).get? a=some (seqObj "list" #[] U):=⟨_,get?_update_seq t.1 λ_=>#[]⟩
 have u1:=vW s.heap a (Obj.mapSeq λ_=>(#[]:AV))
 have I1:=hJ (t':=s.toks) I h0 hp (λb u n q=>(u1.2 b n).trans q) Qj da
 let h2:Heap:=(s.heap.update a (Obj.mapSeq λ_=>(#[]:AV))).push (seqObj "tuple" its.toArray 0)
 have y:Inv X ((a,seqObj "list" #[] U)::ag) σ H { s with heap:=h2 }:=I1.kept (t':=s.toks) λb u q=>vZ _ q
 let kS:Addr:=h2.objs.size
 have I3:Inv X ((kS,seqObj "list" #[] 0)::(a,seqObj "list" #[] U)::ag) σ H { s with heap:=h2.push (seqObj "list" #[] 0) }:=qZ (s:={ s with heap:=h2 }) (t':=s.toks) y (λb u q=>vZ _ q) (vT _) (vY _ rr) da
 have k0:X.s₀.z<=kS:=y.sz
 have kp:∀q∈X.pn++((a,seqObj "list" #[] U)::ag),q.1≠kS:=λq hq=>vS (vX (y.pin q hq).1)
 unfold ksk_tree
 refine wX (listItems_at t.1 rr ?_)
 refine wX (listUpdate_at t.1 rr ?_ (by simpa using hz) (uN _))
 refine wX (seqEpoch_at Qj rr ?_)
 refine wX (wpAny_newTuple ?_ (by omega))
 refine wX (wpAny_newList ?_ (uN _))
 refine wpAny_holding ?_
 show wpAny (model X.prog X.w) A (ksk_rest a qv false its.toArray U (.ref kS)) P E { s with heap:=h2.push (seqObj "list" #[] 0) }
 unfold ksk_rest
 refine wX (wpAny_rule ?_)
 rw[List.forIn_toArray]
 refine wX (ksk_fold (λi s'=>∃(H' N:Hp)(kA:AV)(e:Nat)(aB:LV),Inv X ((kS,seqObj "list" kA e)::(a,seqObj "list" #[] U)::ag) σ H' s'/\Ext B N H H'/\bd aB kA.toList/\IsL X.K N aB (j8.take i)) its 0 _
  ⟨H,B,#[],0,[],I3,.refl sB,.nil,by simpa using IsL.nil⟩ ?step ?done)
 case step=>
  rintro j u s' hu ⟨H',N,kA,e,aB,J,c,rk,ik⟩
  simp only[Nat.zero_add]at ik |-
  have hj:j<its.length:=(vV hu).1
  refine cX λ_ g'=>?_;obtain⟨d,hd⟩:∃d,ds[j]? = some d:=⟨_,vU N9⟩
  obtain⟨v,hv,Zr⟩:=iv.get hd
  obtain⟨kd,ZY,D⟩:=sJ Z hd
  obtain⟨u',Zs,ru⟩:=x.get hv
  apply g';rw[hu]at Zs;cases Zs
  have kl:kA.size=j:=by
   have z1:=rk.length
   have z2:=ik.length
   simp_all<;>lia
  refine wX (wpAny_attempt (wpAny_mono (FV _ s' H' N v u d kd J c.hh c.bn c.nh (Zr.mono c.bn) ru D) (λw F hw=>?_) λ_ _ hF=>hF.elim))
  refine cX λ_ g'=>?_;obtain⟨v',L,J',rv',N',x2,i2⟩:=hw
  have g:=J'.pin (kS,seqObj "list" kA e) (mY _ mX)
  obtain⟨c2,HQ⟩:∃c2,(F.heap.update kS (Obj.mapSeq (·.push w))).get? kS=some (seqObj "list" (kA.push w) c2):=⟨_,get?_update_seq g.1 (·.push w)⟩
  apply g';have u2:=vW F.heap kS (Obj.mapSeq (·.push w))
  refine wX (listUpdate_at g.1 rr ?_ (by rw[sizeLine_eq];lia) (vR (le_of_eq (Array.size_push ..)) (by rw[sizeLine_eq];lia)))
  refine wY ⟨rr,L,N',kA.push w,c2,aB++[v'],hJ (t':=F.toks) J' k0 kp (λb q n z=>(u2.2 b n).trans z) HQ da,c.trans x2,?_,?_⟩
  .simp_all[wz]
  .rw[take_add_one,ZY];exact(ik.mono x2.bn).append (.cons i2 .nil)
 case done=>
  rintro s' ⟨H',N,kA,e,aB,J,c,rk,ik⟩
  have k:IsL X.K N aB j8:=by
   grind
  have g:=J.pin (kS,seqObj "list" kA e) (mY _ mX)
  have R:=J.pin (a,seqObj "list" #[] U) (mY _ (mZ _ mX))
  have Qa:H' a=none:=R.2.1
  have kz:kA.toList.length=its.length:=by rw[<-rk.length,k.length];lia
  have l:kA.size=its.length:=by simp_all
  refine wX (listItems_at g.1 rr ?_)
  have m:=M.ask J rk (k.mono c.nh) ek hf hc
  -- the end of the sort,for a permutation p
  have Ql:∀(st:SortSt)(p:Array Nat),arrOf st=p.map (kas_item (kA.toList.toArray.zip its.toArray))->failedOf st=none->px its.length p->Up (DA ks) p its.length ->
    wpAny (model X.prog X.w) A (ksk_tail a false U (.ref kS) st) P E s':=λst p ea ef ap up=>by
   have eo:(arrOf st).map (·.2)=List.toArray (p.toList.map λi=>its.getD i Value.none):=kat_snds kz ea
   have QX:∀i∈p.toList,i<vs.length:=λi hi=>by
    have:=mem_range.mp (ap.perm.mem_iff.mp hi)
    simp_all
   obtain⟨c3,S⟩:∃c3,(s'.heap.update kS (Obj.mapSeq λ_=>(#[]:AV))).get? kS=some (seqObj "list" #[] c3):=⟨_,get?_update_seq g.1 λ_=>#[]⟩
   have u3:=vW s'.heap kS (Obj.mapSeq λ_=>(#[]:AV))
   have J3:=kM (hJ (t':=s'.toks) J k0 kp (λb q n z=>(u3.2 b n).trans z) S da)
   have f:=J3.pin (a,seqObj "list" #[] U) (mY _ mX)
   obtain⟨T,o⟩:∃T,((s'.heap.update kS (Obj.mapSeq λ_=>(#[]:AV))).update a (Obj.mapSeq λ_=>(arrOf st).map (·.2))).get? a=some (seqObj "list" ((arrOf st).map (·.2)) T):=⟨_,get?_update_seq f.1 λ_=>(arrOf st).map (·.2)⟩
   have u4:=vW (s'.heap.update kS (Obj.mapSeq λ_=>(#[]:AV))) a (Obj.mapSeq λ_=>(arrOf st).map (·.2))
   have so:((arrOf st).map (·.2)).size=its.length:=by rw[eo];simp only[vH,vI,vG,ap.size]
   unfold ksk_tail
   try dsimp only
   refine wX (listUpdate_at g.1 rr ?_ (by rw[l,sizeLine_eq];lia) (uN _))
   refine wX (wpAny_letGo ?_)
   refine wX (seqEpoch_at f.1 rr ?_)
   refine wX (listUpdate_at f.1 rr ?_ (uN _) N9)
   rw[ef]
   simp only[bne_self_eq_false,uV,if_false]
   refine wY (h p _ H' N ap up (Ol (s:={ s' with heap:=s'.heap.update kS (Obj.mapSeq λ_=>(#[]:AV)) }) (t':=s'.toks) J3 h0 hp (λb q n z=>(u4.2 b n).trans z) ⟨_,o⟩ ?_) c Qa)
   refine⟨by rw[vI,vG,ap.size];exact hz,p.toList.map λi=>its.getD i Value.none,T,pG x p.toList QX,?_⟩
   rw[<-eo];exact o
  unfold ksk_end
  try dsimp only
  simp only[uV,if_false]
  have V:kA=kA.toList.toArray:=H9
  by_cases O:its.toArray.size<2
  .rw[if_pos O,if_pos O]
   refine wX (wY ?_)
   rw[StateT.run_pure]
   refine wX (wY ?_)
   have hsm:its.length<2:=by simpa using O
   refine Ql _ (List.toArray (List.range its.length)) ?_ rr ⟨H9,H9⟩ ?_
   .show kA.zip its.toArray=_
    have:=kas_range (kA.toList.toArray.zip its.toArray)
    rw[show(kA.toList.toArray.zip its.toArray).size=its.length by simp[l]]at this
    rw[this]
   .intro i j hij hj
    grind
  .rw[if_neg O,if_neg O]
   have W:2<=its.length:=by simp at O;lia
   rw[V]
   refine wX (m.1 N9 ?_)
   obtain⟨p,r1,r2,r3⟩:=zQ (n:=its.length) (rk:=DA ks) N9
   refine wX (wpAny_mono (kat_run (E:=E) (ks:=kA.toList) (vs:=its) (κ:=tuples' true) (s:=s') (Q:=λY s2=>s2=s'/\arrOf Y=p.map (kas_item (kA.toList.toArray.zip its.toArray))/\failedOf Y=none)
    (G:=λp' s2=>p'=p/\s2=s') kz W CZ (λp' Y s2 _ e2 e3 e4=>by
     lia) (Run.wp (λs2=>s2=s') (λi j C s2 hi hj e hC=>m.2 i j C s2 N9 N9 e hC) r1 rr λs2 e=>⟨rr,e⟩)) (λr s2 hr=>?_) λ_ _ z=>z)
   grind
end
theorem sK {b M:Type}{f:b->M}:∀ {l:List b},(l.map f).Nodup->l.Nodup
 |[],_=>nodup_nil
 |a::l,h=>by
  rw[uY,nodup_cons]at h;exact nodup_cons.mpr ⟨λz=>h.1 (uS ⟨a,z,rr⟩),sK h.2⟩
def eF (a:List (List At))(b:LD):LD:=(dm (λp:List At×D=>bK p.1) (a.zip b)).map (·.2)
def JU {a U:Type}d e:∀ {O:List a}{M:List U},O.length=M.length->(List.range M.length).map (λi=>(O.getD i d,M.getD i e))=O.zip M:=λ{O M} h=>by
 apply ext_getElem?;intro i;by_cases b:i<M.length
 .simp_all
 .simp[b,h]
theorem Om {k U:Type}{M:List k}{O:List U}(r:M.Nodup){a:k}{b c:U}(o:(a,b)∈M.zip O)(q:(a,c)∈M.zip O):b=c:=by
 obtain⟨i,w⟩:=mem_iff_getElem?.mp o;obtain⟨j,z⟩:=mem_iff_getElem?.mp q;grind[List.getElem_inj]
def sM(w:o.length=q.length)(S:cz o=true)(V:o.Nodup)(r:px q.length p)(O:Up (DA o) p q.length):p.toList.map (λi=>q.getD i .non)=eF o q:=by
 unfold eF;have e:p.toList.map (λi=>(o.getD i [],q.getD i .non))=dm (λp:List At×D=>bK p.1) (o.zip q):=by
  apply hG
  .intro x hx y F e;have W:=(of_mem_zip hx).1;have g:=(of_mem_zip F).1;grind[lJ,Om]
  .have:=r.perm.map (λi=>(o.getD i [],q.getD i D.non));rw[JU [] D.non w]at this;exact this
  .rw[List.pairwise_iff_getElem];intro i j K P M;have R:=r.size;have U:i<p.size:=by simpa using K
   have a:j<p.size:=by simpa using P
   have:=O i j (le_of_lt M) N9;unfold cj DA at this;have b:p.getD i 0=p[i]:=by simp_all
   have c:p.getD j 0=p[j]:=by simp_all
   have h:=r.lt (k:=j) N9;have d:o.getD (p.getD j 0) []∈o:=by
    simp_all
   simp only[List.getElem_map,Array.getElem_toList];unfold MB;rw[<-b,<-c];exact λz=>by
    have:=D8 (cs:=o.map bK) (uS ⟨_,d,rr⟩) z;lia
 rw[<-e,uP];rfl
@[simp] def ye (k:LD->Option (List (List At)))(o:List (List At)->Bool)(f:FE)(O:Env->D->Option D):FE:=λb=>(f b).bind λx=>match x.1 with
 |.lst c=>(jt (O b) c).bind λM=>(k M).bind λa=>if a.length<64/\cz a=true/\o a=true/\(a.map bK).Nodup then some (.lst (eF a c),true)else none
 |_=>none
@[simp] abbrev yf:FE->(Env->D->Option D)->FE:=ye dQ c6
noncomputable def aaO (g:(D->Option D)->LD->OB)(f:FE)(M:Env->D->Option D):FE:=λa=>(f a).bind λx=>match x.1 with
 |.lst b=>g (M a) b
 |_=>none
section
variable {X:Cx}{e ke:Expr}{p pos kp:Pos}{kd:LD->Option (List (List At))}{ok:List (List At)->Bool}
def GF {F:Shared}{tk:Nat}{D:Heap}{Q:V->Hp->Prop}(M:KK X X.A.in1.in1 kd ok)(U:Inv X ag L T { F with heap:=D,toks:=tk })(l:wy X X.A.in1.in1 L (.ref qa) N T kf)(g:bd I C)(a:IsL X.K N I G)(c:Ext B N H T)(h:jt kf G=some Y)(R:kd Y=some E)
  (hh:E.length<64/\cz E=true/\ok E=true/\(E.map bK).Nodup) (q:Fin X.K B H (.lst (eF E G)) true Q):
  wpAny (model X.prog X.w) X.A.in1 (do let _ <-holding [.ref D.objs.size] (call (.builtin "list.sort") [.ref D.objs.size] [(("key" : Str),.ref qa)]);ret (.ref D.objs.size)) (λdF S=>∃v,dF=.done (.ret v)/\EP X ag L Q v S) X.xe { F with heap:=D.push (seqObj "list" C.toArray 0),toks:=tk }:=by
 obtain⟨x,W,hf,nd⟩:=hh;have y:I.length=C.length:=g.length;have z:G.length=I.length:=a.length.symm;have m:Y.length=G.length:=kO h;have n:E.length=Y.length:=M.len R;have j:Inv X ((D.objs.size,seqObj "list" C.toArray 0)::ag) L T _:=
  qZ (s:={ F with heap:=D,toks:=tk }) (t':=tk) U (λb u q=>vZ _ q) (vT _) (vY _ rr) da
 have r:=j.pin _ (mY _ mX);refine wX (wpAny_holding (wpAny_call_entry_kw slot_list_sort ⟨_,r.1,rr⟩ entry_list_sort ?_ (ksk_l1 _ _)));rw[ksk_t1];refine Ch j U.sz (λq hq=>vS (vX (U.pin q hq).1)) l g a c.nh M h R W hf N9 λZ S H' N' P k J O hn=>⟨_,rr,wY ⟨_,rr,?_⟩⟩;have t:C.length=G.length:=N9
 rw[t]at P k;have d:=sE (a.mono O.bn) Z.toList λi hi=>mem_range.mp (P.perm.mem_iff.mp hi);rw[sM N9 W (sK nd) P k]at d;have f:=Ext.laid (o:=.lst (Z.toList.map λi=>I.getD i .non)) O.nh hn;exact⟨.ref D.objs.size,_,J,rr,q _ _ _ ((c.trans O).trans f) (.lst (fW.of av) (d.mono f.bn)) λp=>⟨_,_,_,rr,rr,(c.trans O).hh.free hn,av,d.mono f.bn⟩⟩
set_option tactic.hygienic true in
def JV(Z:bootBuiltins F=some (.builtin nm))(n1:F ≠ "__name__")(n2:bB F)(hm:X.mg F=none)(he:JE X e f)(hk:JK X A ke a)(m:Gl X F)
  (M:d4 e X.env)
  (U:∀ {L G T Y j} {B N H:Hp}{a:D->Option D}{l J E ds d b Q},Inv X L G T Y->wy X A G (.ref j) N T a->fW X.K N l J->IsL X.K N J ds->bd J E->Y.heap.IsList l E.toArray->Ext B N H T->g a ds=some (d,b)->Fin X.K B H d b Q->wq X (call (.builtin nm) [.ref l] [(("key" : Str),.ref j)]) (EP X L G Q) X.xe Y):
  JE X (.Call (.Name F p) [e] [⟨some "key",ke,kp⟩] pos) (aaO g f a):=by
 intro L s G H Q I h;refine cX λ_ g'=>?_;obtain⟨B,S,d,b,n,P,c,q⟩:=h;obtain⟨⟨xd,C⟩,ex,c⟩:=oX c;apply g';cases xd<;>try (cases c;done)
 rename_i ds;refine wpAny_Call_Name_kw (jb I m hm Z ?_ n1 n2);refine callWith_kw (bY ((dI he gJ M) pos L s G H (λJ i=>∃v N,J=[v]/\Ext B N H i/\Is X.K N v (.lst ds)) I ⟨B,S,_,_,n,P,ex,λv i N O R _=>⟨v,N,rr,O,R⟩⟩) λus s1 o=>?_) (by rw[M];rfl) (by rw[M];rfl) rr rr;refine cX λ_ g'=>?_;obtain⟨r,i,t,w,v,N,rfl,O,R⟩:=o;obtain⟨u,rfl,ru⟩:=gA w;apply g';refine kws_cons (hk L s1 G i N S _ _ t O.nh (P.mono O.bn) λj T Y k V x=>kws_nil ?_);cases R
 rename_i l J W y;cases ru
 obtain⟨E,z,pl,_⟩:=k.list ((O.nh.trans V).seq W);exact U k x W y z pl.isList (O.trans (.grow O.nh V)) c q
def Q7 (M:KK X X.A.in1.in1 kd ok){f:FE}{c:Env->D->Option D}(K:X.mg "sorted" = none)(P:JE X e f)(R:JK X X.A.in1.in1 ke c)(i:Gl X "sorted")
  (a:d4 e X.env):
  JE X (.Call (.Name "sorted" p) [e] [⟨some "key",ke,kp⟩] pos) (ye kd ok f c):=by
 refine JV (nm:="sorted") (g:=λk w=>(jt k w).bind λU=>(kd U).bind λr=>if r.length<64/\cz r=true/\ok r=true/\(r.map bK).Nodup then some (.lst (eF r w),true)else none) rr I9 q9 K P R i a λ{ag σ H2 s2 qa B N H k l vs its w d b Q} I2 FV hq il rv pl x1 O q=>?_;refine eX O λU h O=>?_;refine eX O λr z O=>?_;split at O
 .rename_i S;cases O
  have F:its.length<=sizeLine:=by rw[<-rv.length,il.length,<-kO h,<-M.len z,sizeLine_eq];lia
  refine call_function_entry_kw kind_sorted plain_sorted entry_sorted (ksk_s1 _ _) ?_;unfold Builtin.«sorted»;refine wX (m:=checkCount "sorted" 1 1 _) (wY (wX (collect_list pl (wX (wpAny_newList ?_ F)) (by simpa using F))));exact GF (tk:=s2.toks) M (I2.kept λb o q=>(Heap.get?_update_ne _ _ _ _ (vS (vX q))).trans (vZ _ q)) FV rv il x1 h z S q
 .cases O
end
noncomputable def cmP {f:String->CmpOp->Builtin}(_:f "__lt__" .Lt=Builtin.«tuple.__lt__»):=f
def cmF:String->CmpOp->Builtin:=cmP rr
section
variable {prog:Program}{w:World}{A:Around}{E:QV}{s:Shared}{op:CmpOp}
def f7.type (h:f7 s.heap d v):s.TypeIs v "tuple":=by
 obtain⟨a,o,b,n,rfl,M,c,z⟩:=h;exact⟨o,M,c⟩
inductive GeW (prog:Program)(w:World)(A:Around)(s:Shared)(op:CmpOp)(dF r:Bool):List (Value×Value)->Prop
 |nil (h:dF=r):GeW prog w A s op dF r []
 |eq {u v:Value}{l:List (Value×Value)}(h:SeqAt.EqAt A s u v true) (t:GeW prog w A s op dF r l):GeW prog w A s op dF r ((u,v)::l)
 |ne {u v:Value}{l:List (Value×Value)}(h:SeqAt.EqAt A s u v false) (t:∀(Q E:Value->Shared->Prop),Q (.bool r) s->wpAny (model prog w) A (richCompare op u v) Q E s):GeW prog w A s op dF r ((u,v)::l)
def Oo {o:String}(O:s.TypeIs (.ref b) "tuple")(U:s.heap.get? a=some n)(c:n.data=.seq l x)(d:s.heap.get? b=some ob)(e:ob.data=.seq m y)
  (W:GeW prog w A s op p r (l.toList.zip m.toList)) (D:Builtin.Tuple.tupleCompareSizes op l.size m.size=.bool p) (f:op=.Lt\/op=.Gt\/op=.GtE) (q:P (.done (.ret (.bool r))) s):wpAny (model prog w) A (cmF o op ⟨[.ref a,.ref b],[]⟩) P E s:=by
 show wpAny _ _ (isInstance _ _>>=_) _ _ s;refine wX (wpAny_isInstance O isSubtype_tuple_tuple ?_);refine wX (wpAny_tupleItemsOf U c ?_);refine wX (wpAny_tupleItemsOf d e ?_);refine wX ?_;refine wpAny_forIn_list _ (λaj z k=>z.1=none/\k=s/\GeW _ w A s op _ r aj) _ ?_ ?_ _ _ ⟨rr,rr,W⟩
 .rintro⟨u,v⟩ aj z k ⟨D,rfl,W⟩;cases W with
  |eq h t=>
   refine wX (h _ _ _ _ ?_);simp_all[wY]
  |ne h t=>
   refine wX (h _ _ _ _ ?_);have t:=t (λv M=>v=.bool r/\M=k) E ⟨rr,rr⟩;rcases f with rfl|rfl|rfl<;>exact wX (wpAny_rule (wX (wpAny_mono t (λv M F=>by obtain⟨rfl,rfl⟩:=F;exact wX (wY (wY (wY q)))) λZ Z z=>z)))
 .rintro⟨i,j⟩ k ⟨g,rfl,W⟩;subst g;refine wY ?_;cases W with
  |nil h=>
   simp_all
structure CmR (prog:Program)(w:World)(A:Around)(s:Shared)(op:CmpOp)(R:List At->List At->Bool->Prop)(fl:Nat->Nat->Bool):Prop where
 ei:∀ {a xs ys r},R (.i a::xs) (.i a::ys) r->R xs ys r
 es:∀ {a xs ys r},R (.s a::xs) (.s a::ys) r->R xs ys r
 ni:∀ {a c xs ys r},a≠c->R (.i a::xs) (.i c::ys) r->∀t u (Q E:Value->Shared->Prop),Q (.bool r) s->wpAny (model prog w) A (richCompare op (.int a t) (.int c u)) Q E s
 ns:∀ {a c xs ys r},a≠c->R (.s a::xs) (.s c::ys) r->∀t u (Q E:Value->Shared->Prop),Q (.bool r) s->wpAny (model prog w) A (richCompare op (.str a t) (.str c u)) Q E s
 mx:∀ {a c xs ys r},¬R (.i a::xs) (.s c::ys) r/\¬R (.s c::xs) (.i a::ys) r
 en:∀ {xs r},(R [] xs r->fl 0 xs.length=r)/\(R xs [] r->fl xs.length 0=r)
 fs:∀ {m n},fl (m+1) (n+1)=fl m n
def JX (C:CmR prog w A s op R g)(z o:List At)(q M:LU)(U:Paired B1 z q)(b:Paired B1 o M)(h:R z o r):GeW prog w A s op (g z.length o.length) r (q.zip M):=by
 induction U generalizing o M with
 |nil=>exact .nil (C.en.1 h)
 |@cons x v z q U f d=>
  cases b with
  |nil=>exact .nil (C.en.2 h)
  |@cons y u o M b O=>
   cases x with
   |i a=>
    cases y with
    |s _=>exact absurd h C.mx.1
    |i c=>
     obtain⟨t,rfl⟩:=U;obtain⟨u,rfl⟩:=b;have k:=SeqAt.EqAt.int_int (A:=A) (s:=s) a t c u;rw[vE,vE,C.fs];by_cases e:a=c
     .subst e;rw[show(a == a)=true by simp]at k;exact .eq k (d o M O (C.ei h))
     .rw[show(a == c)=false by simp[e]]at k;exact .ne k (C.ni e h t u)
   |s a=>
    cases y with
    |i _=>exact absurd h C.mx.2
    |s c=>
     obtain⟨t,rfl⟩:=U;obtain⟨u,rfl⟩:=b;have k:=SeqAt.EqAt.str_str (A:=A) (s:=s) a t c u;rw[vE,vE,C.fs];by_cases e:a=c
     .subst e;rw[show(a == a)=true by simp]at k;exact .eq k (d o M O (C.es h))
     .rw[show(a == c)=false by simp[e]]at k;exact .ne k (C.ns e h t u)
def W9:CmR prog w A s .Lt (λa b r=>aX a b=some r) (λm n=>decide (m<n)) where
 ei h:=by rwa [aX,if_pos rr]at h
 es h:=by rwa [aX,if_pos rr]at h
 ni e h _ _ _ _ q:=by rw[aX,if_neg e]at h;cases h;exact PyProof.Rows.lt_int q
 ns e h _ _ _ _ q:=by rw[aX,if_neg e]at h;cases h;exact PySem.P.lt_str q
 mx:=by simp[aX]
 en:=λ{a}=>by cases a<;>simp[aX]
 fs:=H9
def WA:CmR prog w A s .Gt (λa b r=>aX b a=some r) (λm n=>decide (n<m)) where
 ei h:=by rwa [aX,if_pos rr]at h
 es h:=by rwa [aX,if_pos rr]at h
 ni e h _ _ _ _ q:=by rw[aX,if_neg (Ne.symm e)]at h;cases h;exact PyProof.Rows.gt_int q
 ns e h _ _ _ _ q:=by rw[aX,if_neg (Ne.symm e)]at h;cases h;exact PySem.P.gt_str q
 mx:=by simp[aX]
 en:=λ{a}=>by cases a<;>simp[aX]
 fs:=H9
def JY (hx:f7 s.heap d (.ref a)):∃o b n,s.heap.get? a=some o/\o.data=.seq b n/\Paired B1 d b.toList/\d.length=b.size:=by
 refine cX λz g'=>?_;obtain⟨O,o,b,n,e,M,k,c,p⟩:=hx;apply g';cases e
 exact⟨o,b,n,M,c,p,eZ p⟩
def Q8 {o:String}(C:CmR prog w A s op R e)(z:∀m n,Builtin.Tuple.tupleCompareSizes op m n=.bool (e m n))(M:op=.Lt\/op=.Gt\/op=.GtE)(hx:f7 s.heap f (.ref a))(k:f7 s.heap g (.ref b))(h:R f g r)(q:P (.done (.ret (.bool r))) s):wpAny (model prog w) A (cmF o op ⟨[.ref a,.ref b],[]⟩) P E s:=by
 have D:=k.type;obtain⟨y,y,y,c,F,p,K⟩:=JY hx;obtain⟨y,y,y,O,U,d,S⟩:=JY k;exact Oo D c F O U (JX C _ _ _ _ p d h) (by rw[K,S];exact z _ _) M q
def JZ (hx:f7 s.heap d x)(c:f7 s.heap f y)(h:aX d f=some r)(k:A.units<cLine)(q:Q (.bool r) s):wpAny (model prog w) A (richCompare .Lt x y) Q E s:=by
 have M:=hx.type;have o:=c.type;obtain⟨a,z,z,z,rfl,z⟩:=id hx;obtain⟨b,z,z,z,rfl,z⟩:=id c;exact wpAny_richCompare_same_room M o slot_tuple_lt (wpAny_call_entry slot_tuple_lt M PySem.F.entry_tuple_lt (by
  have D:=c.type;refine cX λz g'=>?_;obtain⟨z,z,z,f,F,p,K⟩:=JY hx;obtain⟨z,z,z,O,U,d,S⟩:=JY c;apply g';exact Oo D f F O U (JX W9 _ _ _ _ p d h) (by rw[K,S];exact (λz z=>rr) _ _) (.inl rr) ⟨_,rr,(λe=>nomatch e),q⟩) (PySem.F.args_tuple_lt_2 _ _)) k
end
def q8:List At×D->List (List At×D)->D
 |b,[]=>b.2
 |b,x::r=>if aX b.1 x.1=some true then q8 x r else q8 b r
def qA:List At×D->List (List At×D)->D
 |b,[]=>b.2
 |b,x::r=>if aX x.1 b.1=some true then qA x r else qA b r
noncomputable def mmP {f:String->CmpOp->Builtin}(_:f "max" .Gt=Builtin.«max.loop»):=f
def mmL:String->CmpOp->Builtin:=mmP rr
noncomputable def mmQ {f:String->Builtin}(_:f "max" = Builtin.«max»):=f
def mmF:String->Builtin:=mmQ rr
structure MM (nm lp:String)(ns:Str)(op:CmpOp)(lt:List At->List At->Option Bool)(go:List At×D->List (List At×D)->D):Prop where
 hn:(toString nm++toString ".loop" : String)=lp
 en:entryFor table lp=some (mmL nm op)
 pl:plainId lp=true
 k2:builtinKind nm=none
 p2:plainId nm=true
 e2:entryFor table nm=some (mmF nm)
 ka:∀a v:Value,argsOk nm ⟨[a],[(Str.ofString "key",v)]⟩
 bt:bootBuiltins ns=some (.builtin nm)
 n1:ns ≠ "__name__"
 n2:bB ns
 g0:∀b,go b []=b.2
 g1:∀b x r,go b (x::r)=if lt b.1 x.1=some true then go x r else go b r
 cg:∀ {ks:List (List At)},cz ks=true->∀ {a b},a∈ks->b∈ks->∃r,lt a b=some r
 rc:∀ {prog:Program}{w:World}{A:Around}{E:Value->Shared->Prop}{s:Shared}{xs ys:List At}{x y:Value}{r:Bool}{Q:Value->Shared->Prop},f7 s.heap xs x->f7 s.heap ys y->lt ys xs=some r->A.units<cLine->Q (.bool r) s->wpAny (model prog w) A (richCompare op x y) Q E s
def mmx:MM "max" "max.loop" "max" .Gt aX q8:=
 ⟨q9,PySem.F.entry_max_loop,PySem.F.plain_max_loop,PySem.F.kind_max,PySem.F.plain_max,PySem.F.entry_max,λz z=>by kernel_rfl,rr,I9,q9,λz=>rr,λz z z=>rr,λh z z a b=>⟨_,gW h a b⟩,λhx c h k q=>by
  have M:=hx.type;have o:=c.type;obtain⟨a,z,z,z,rfl,z⟩:=id hx;obtain⟨b,z,z,z,rfl,z⟩:=id c;exact wpAny_richCompare_same_room M o slot_tuple_gt (wpAny_call_entry slot_tuple_gt M PySem.F.entry_tuple_gt (Q8 WA (λz z=>rr) (.inr (.inl rr)) hx c h ⟨_,rr,(λe=>nomatch e),q⟩) (PySem.F.args_tuple_gt_2 _ _)) k⟩
def mmn:MM "min" "min.loop" "min" .Lt (λa b=>aX b a) qA:=
 ⟨q9,PySem.F.entry_min_loop,PySem.F.plain_min_loop,PySem.F.kind_min,PySem.F.plain_min,PySem.F.entry_min,λz z=>by kernel_rfl,rr,I9,q9,λz=>rr,λz z z=>rr,λh z z a b=>⟨_,gW h b a⟩,JZ⟩
section
variable {X:Cx}{ag:AO}{σ:St}
def Ci (J:Inv X ((M,O)::(U,d)::ag) σ e f):Inv X ((U,d)::(M,O)::ag) σ e f:=
 J.pins_of λq a=>J.pin q (by
  grind)
def sP (b:∀q∈X.pn++ag,q.1≠a)(h:S≠a):∀q∈X.pn++((S,o)::ag),q.1≠a:=λq c=>by
 grind
def ra (I:Inv X ag σ H s)(r:aI v u)(i:Is X.K H v d)(e:zU d=some k):f7 s.heap k u:=by
 have:=oh I (.cons r .nil) (.cons i .nil) (by simp [dQ,e];rfl);cases this;assumption
inductive MK (X:Cx)(ag:List (Addr×Obj))(σ:St)(S It l:Addr)(o:Obj)(j:Nat)(N H:Hp)(y:List At×D)(u ku:Value)(s:Shared):Prop
 |mk (H2 N2:Hp) (v kv:V) (kd:D) (oI:Obj) (J:Inv X ((S,o)::(It,oI)::ag) σ H2 s) (xw:s.heap.IsListIter It l (j+1)) (x:Ext N N2 H H2) (ru:aI v u) (iv:Is X.K N2 v y.2) (rk:aI kv ku) (ik:Is X.K N2 kv kd) (ek:zU kd=some y.1)
def Ka {E:QV}{It:Addr}(hh:X.A.handled=none)(p:wy X X.A.in1 σ (.ref Y) B H1 kf)(hq:fW X.K B l vs)(iv:IsL X.K B vs T)(t:jt kf T=some j8)(ek:dQ j8=some ks)(x:X.s₀.z<=It)(C:∀q∈X.pn++((S,o)::ag),q.1≠It)
  (D:l≠It) (hz:(ks.zip T)[j]? = some y) (I:Inv X ((S,o)::(It,oI)::ag) σ H s) (xw:s.heap.IsListIter It l j) (M:Ext B N H1 H):
  wpAny (model X.prog X.w) X.A.in1 (pyNext (.ref It)) (λr s1=>∃u,r=some u/\wpAny (model X.prog X.w) X.A.in1 (call (.ref Y) [u]) (MK X ag σ S It l o j N H y u) (λ_ _=>False) s1) E s:=by
 refine cX λ_ g'=>?_;obtain⟨its,F,pl,_⟩:=I.list ((M.bn.trans M.nh).seq hq);obtain⟨hk,R⟩:=getElem?_zip_eq_some.mp hz;obtain⟨v,hv,U⟩:=iv.get R;obtain⟨V,g,d⟩:=sJ t R;obtain⟨u,W,Z⟩:=F.get hv;apply g';have G:=by
  have:=wx ek (i:=j) (vV g).1;rw[vF,g,vF,hk]at this;exact this
 refine(Walks.list (A:=X.A.in1) hh It l D _).item j _ _ _ (by simpa using(vV W).1) ⟨xw,pl.isList⟩ λu' h' Q J a L=>?_;have h:=by simpa using J
 rw[W]at h;cases h;obtain⟨O,f,P,c⟩:=id a.1;exact⟨u,rr,bY (p _ _ H N v u y.2 V (Ci (hJ (Ci I) x C (λb o n e=>L b o (by simpa using n) e) f (λv z=>by rw[c]at z;cases z))) M.hh M.bn M.nh (U.mono M.bn) Z d) λku s2 ⟨kv,H2,k,rk,N2,m,ik⟩=>
  ⟨H2,N2,v,kv,V,O,k,⟨O,(k.pin (It,O) (mY _ (mZ _ mX))).1,P,c⟩,m,Z,U.mono (M.bn.trans m.bn),rk,ik,G⟩⟩
def Op {nm lp:String}{ns:Str}{op:CmpOp}{lt:List At->List At->Option Bool}{go:List At×D->List (List At×D)->D}(M:MM nm lp ns op lt go){G:Value}{l S It:Addr}{vs:LV}{ds Z:LD}{ks:List (List At)}{B J:Hp}{kf:D->Option D}{d0:D}{R:Result->Shared->Prop}(hh:X.A.handled=none)(hu:X.A.in1.units<cLine)(FV:wy X X.A.in1 σ G B J kf)(L:∃a,G=.ref a)(hq:fW X.K B l vs)(iv:IsL X.K B vs ds)
  (em:jt kf ds=some Z) (ek:dQ Z=some ks) (hc:cz ks=true) (S0:X.s₀.z<=S) (I0:X.s₀.z<=It) (Zt:∀q∈X.pn++ag,q.1≠S) (Uw:∀q∈X.pn++ag,q.1≠It) (E:S≠It) (QZ:S≠l) (Ux:l≠It)
  (hR:∀(s':Shared)(H' N:Hp)(v:V)(u:Value),Inv X ag σ H' s'->Ext B N J H'->aI v u->Is X.K N v d0->R (.ok (.ret u)) s'):
  ∀(r j:Nat)(s:Shared)(H N:Hp)(U O:Value)(i p:V)(k t:D)(m:List At)(c:Nat)(oI:Obj),vs.length - j=r->j<=vs.length->Inv X ((S,seqObj "list" #[U,O] c)::(It,oI)::ag) σ H s->s.heap.IsListIter It l j->Ext B N J H ->
   aI i U->Is X.K N i k->aI p O->Is X.K N p t->zU t=some m->m∈ks->go (m,k) ((ks.zip ds).drop j)=d0 ->
   codeAny (model X.prog X.w) X.A (.builtin lp ⟨[.ref It,G,.ref S],[]⟩) R s:=by
 obtain⟨qa,rfl⟩:=L;intro r;induction r with
 |zero=>
  intro j s H N U O i p k t m c oI hr hj I xw d P i1 Q i2 f mk hd;have T:=I.pin (S,seqObj "list" #[U,O] c) (mY _ mX);have sB:aS B H:=d.bn.trans d.nh;refine I.lisE (sB.seq hq) λits rv pl _=>?_;have hl:=pl.isList;have W:=Walks.list (prog:=X.prog) (w:=X.w) (A:=X.A.in1) hh It l Ux its.toArray;have hsz:its.toArray.size=its.length:=vH ..;have B5:vs.length=its.length:=rv.length;have MI:ds.length=its.length:=by rw[<-iv.length];exact rv.length
  have ZW:k=d0:=by
   rw[List.drop_of_length_le (by rw[length_zip];grind)]at hd;rw[M.g0]at hd;exact hd
  subst ZW;refine codeAny_builtin M.en ?_;rw[Around.under_plainId M.pl _];show wpAny _ X.A.in1 (seqItems? (.ref S)>>=_) _ _ _;refine wX (wpAny_seqItems T.1 rr ?_);show wpAny _ X.A.in1 (tryCatch (pyNext (.ref It)) _>>=_) _ _ _;refine wX (wpAny_tryCatch (W.done _ _ _ ⟨by grind,hl⟩ λh' Zl HU=>?_));have J1:Inv X ((It,oI)::(S,seqObj "list" #[U,O] c)::ag) σ H s:=Ci I;have Y:∀q∈X.pn++((S,seqObj "list" #[U,O] c)::ag),q.1≠It:=sP Uw E;have J2:=
   (kM J1).turned (t':=Zl) (λb o n e=>HU b o (by simpa using n) e) (J1.pin (It,oI) (mY _ mX)).2.1 (J1.pin (It,oI) (mY _ mX)).2.2.1 (.inr I0) (pH J1) Y
  have x:=J2.pin (S,seqObj "list" #[U,O] c) (mY _ mX);obtain⟨c2,HQ⟩:∃c2,(h'.update S (Obj.mapSeq λ_=>(#[]:AV))).get? S=some (seqObj "list" #[] c2):=⟨_,get?_update_seq x.1 λ_=>#[]⟩;have F:=vW h' S (Obj.mapSeq λ_=>(#[]:AV));show wpAny _ X.A.in1 (updateSeq S (λ_=>#[])>>=_) _ _ _;refine wX ?_;refine wpAny_updateSeq x.1 rr (wX (wpAny_letGo (wY ?_)));exact hR _ H N i U (kM (hJ (t':=Zl) J2 S0 Zt (λb o n e=>(F.2 b n).trans e) HQ da)) d P i1
 |succ r ih=>
  intro j s H N U O i p k t m c oI hr hj I xw d P i1 Q i2 f mk hd;have qM:j<(ks.zip ds).length:=by rw[length_zip,lK ek,kO em,<-iv.length];simp<;>grind
  have T:=I.pin (S,seqObj "list" #[U,O] c) (mY _ mX);have hz:=vU qM;rw[List.drop_eq_getElem_cons qM,M.g1]at hd;generalize (ks.zip ds)[j]=y at hz hd;have hm:y.1∈ks:=vL (getElem?_zip_eq_some.mp hz).1;obtain⟨r,g⟩:=M.cg hc mk hm;refine codeAny_builtin M.en ?_;rw[Around.under_plainId M.pl _];show wpAny _ X.A.in1 (seqItems? (.ref S)>>=_) _ _ _;refine wX (wpAny_seqItems T.1 rr ?_);show wpAny _ X.A.in1 (tryCatch (pyNext (.ref It)) _>>=_) _ _ _;refine wX (wpAny_tryCatch (bY (Ka hh FV hq iv em ek I0 (sP Uw E) Ux hz I xw d) λ_ s1 ⟨u,e,h1⟩=>?_));subst e;refine wX (wpAny_tryCatch (wpAny_holding (wpAny_mono h1 (λku s2 ⟨H2,N2,v,kv,kd,ZZ,C,Zw,h,ru,Zr,rk,ik,UX⟩=>?_) λ_ _ z=>z.elim)));have t1:=ra C rk (ik.mono h.nh) UX;have t2:=ra C Q (i2.mono (h.bn.trans h.nh)) f;refine wX (wpAny_tryCatch (wpAny_holding (wX (M.rc t1 t2 g hu ?_))));refine wX (wpAny_holding (wpAny_truthy_bool ?_));refine wX (wpAny_letGo (wY ?_));cases r with
  |true=>
   rw[if_pos g]at hd;have F:=vW s2.heap S (Obj.mapSeq λ_=>#[u,ku]);simp only[if_true];have Zx:=C.pin (S,seqObj "list" #[U,O] c) (mY _ mX);refine wX (wpAny_updateSeq Zx.1 rr (wX (wpAny_letGo ?_)));rw[M.hn];obtain⟨o,g1,g2⟩:=Zw;exact wY ⟨plainId_quiet M.pl _,ih (j+1) _ H2 N2 u ku v kv y.2 kd y.1 _ ZZ N9 N9 (hJ (t':=s2.toks) C S0 (sP Zt E.symm) (λb o n e=>(F.2 b n).trans e) (get?_update_seq Zx.1 λ_=>#[u,ku]) da) ⟨o,(F.2 It E.symm).trans g1,g2⟩ (d.trans h) ru Zr rk ik UX hm hd⟩
  |false=>
   rw[if_neg (by rw[g];simp)]at hd;simp only[uV,if_false];refine wX (wpAny_letGo ?_);rw[M.hn];exact wY ⟨plainId_quiet M.pl _,ih (j+1) _ H2 N2 U O i p k t m c ZZ N9 N9 C Zw (d.trans h) P (i1.mono h.bn) Q (i2.mono h.bn) f mk hd⟩
end
@[simp] def SX (k:List At×D->List (List At×D)->D)(f:FE)(O:Env->D->Option D):FE:=λa=>(f a).bind λx=>match x.1 with
 |.lst b=>(jt (O a) b).bind λM=>(dQ M).bind λc=>if cz c=true then match c.zip b with
  |[]=>none
  |y::r=>some (k y r,false)
  else none
 |_=>none
@[simp] def DF:=SX q8
@[simp] def DG:=SX qA
section
variable {X:Cx}{e ke:Expr}{p pos kp:Pos}
set_option tactic.hygienic true in
def Q9 {nm lp:String}{ns:Str}{op:CmpOp}{lt:List At->List At->Option Bool}{go:List At×D->List (List At×D)->D}(M:MM nm lp ns op lt go){f:FE}{m:Env->D->Option D}{k:Nat}(hm:X.mg ns=none)(he:JE X e f)(hk:JK X X.A.in1 ke m)(t:eQ k X.A)(V:Gl X ns)
  (c:d4 e X.env):
  JE X (.Call (.Name ns p) [e] [⟨some "key",ke,kp⟩] pos) (SX go f m):=by
 refine JV (g:=λk ds=>(jt k ds).bind λw=>(dQ w).bind λks=>if cz ks=true then match ks.zip ds with
  |[]=>none
  |y::r=>some (go y r,false)
  else none) M.bt M.n1 M.n2 hm he hk V c λ{ag σ H2 s2 qa B N H k l vs its ds d b Q} I2 FV hq il rv pl x1 O q=>?_
 refine eX O λw x O=>?_;refine eX O λks ek O=>?_;split at O
 .rename_i hc;split at O
  .cases O
  rename_i y aj h;cases O
  have C:l<s2.z:=by
   obtain⟨ol,W,_⟩:=pl;exact vX W
  have E:(ks.zip ds)[0]? = some y:=by rw[h];rfl
  have i:=vL (getElem?_zip_eq_some.mp E).1;refine kmk_tree M.k2 M.p2 M.e2 (M.ka _ _) ?_;refine wX (wpAny_of_eq (show Builtin.Builtins.bindParams nm ["key","default"] 0 ⟨[],[(Str.ofString "key",.ref qa)]⟩=pure [some (.ref qa),none]from rr) ?_);refine wX (wY ?_);refine wX (wpAny_pyIter_list pl ?_);refine wX (wpAny_newList ?_ (uN _));rw[M.hn];let It:Addr:=s2.z;let oI:Obj:={ cls:=.type "list_iterator",data:=.fields #[.ref l,.int 0 0] };let S:Addr:=(s2.heap.push oI).objs.size;have a:S=s2.z+1:=size_push' ..;have U:S≠It:=by rw[a];exact ne_of_gt (Nat.lt_succ_self _)
  have J2:Inv X ((S,seqObj "list" #[] 0)::(It,oI)::ag) σ H2 _:=qZ (s:={ s2 with heap:=s2.heap.push oI }) (t':=s2.toks) (qZ (t':=s2.toks) I2 (λb u q=>vZ _ q) (vT _) (vY _ rr) (λv z=>by cases z)) (λb u q=>vZ _ q) (vT _) (vY _ rr) da;have F:X.s₀.z<=It:=I2.sz;have G:X.s₀.z<=S:=by rw[a];exact le_succ_of_le I2.sz
  have I:∀q∈X.pn++ag,q.1≠It:=λq hq=>vS (vX (I2.pin q hq).1);have J:∀q∈X.pn++ag,q.1≠S:=λq hq=>by rw[a];exact vS (lt_succ_of_lt (vX (I2.pin q hq).1))
  have K:l≠It:=vS C;have Y:S≠l:=by rw[a];exact ne_of_gt (lt_succ_of_lt C)
  have hh:X.A.handled=none:=t.hd;have hu:X.A.in1.units<cLine:=by have:=t.un;lia
  have Z:=J2.pin (S,seqObj "list" #[] 0) (mY _ mX);have pI:=J2.pin (It,oI) (mY _ (mZ _ mX));refine wY ⟨plainId_quiet M.pl _,?_⟩;refine codeAny_builtin M.en ?_;rw[Around.under_plainId M.pl _];refine wX (wpAny_seqItems Z.1 rr ?_);refine wX (wpAny_tryCatch (bY (Ka hh FV hq il x ek F (sP I U) K E J2 ⟨oI,pI.1,rr,rr⟩ (.refl x1.nh)) λ_ s1 ⟨u,e,h1⟩=>?_));subst e;refine wX (wpAny_tryCatch (wpAny_holding (wpAny_mono h1 (λku L ⟨H3,N3,v,kv,kd,ZZ,P,⟨o,g1,g2⟩,x3,ru,Zr,rk,ik,UX⟩=>?_) λ_ _ z=>z.elim)));have R:=P.pin (S,seqObj "list" #[] 0) (mY _ mX);have T:=vW L.heap S (Obj.mapSeq λ_=>#[u,ku]);refine wX (wpAny_updateSeq R.1 rr ?_);rw[M.hn];have j:1<=vs.length:=by
   have:=congrArg List.length h;rw[length_zip,vE,<-il.length]at this;grind
  exact wY ⟨plainId_quiet M.pl _,Op M (S:=S) (It:=It) hh hu FV ⟨qa,rr⟩ hq il x ek hc G F J I U Y K (λs' H' N' v' u' J' x' r' i'=>⟨v',H',J',r',q _ _ _ (x1.trans x') i' H9⟩) _ 1 _ H3 N3 u ku v kv y.2 kd y.1 _ ZZ rr j
   (hJ (t':=L.toks) P G (sP J U.symm) (λb o n e=>(T.2 b n).trans e) (get?_update_seq R.1 λ_=>#[u,ku]) da) ⟨o,(T.2 It U.symm).trans g1,g2⟩ x3 ru Zr rk ik UX i (by rw[h];rfl)⟩
 .cases O
end
section
variable {X:Cx}
@[simp] def tLt:D->D->OB
 |.tup a,.tup b=>(mJ a).bind λc=>(mJ b).bind λk=>(aX c k).map λr=>(.bl r,false)
 |_,_=>none
def WC (w:X.A.units+40<cLine):dj X (compareOp .Lt) (rD X.K tLt):=by
 intro z s D H x y v u Q I O U q;refine e5 q λB k a d b M c f e q=>?_;cases k<;>try (simp at e)
 cases a<;>try (simp at e)
 refine eX e λF g e=>eX e λP o e=>?_;refine eS e λr h e=>?_;cases e
 exact JZ (ra I O (c.mono M) g) (ra I U (f.mono M) o) h N9 ⟨.bl r,H,I,rr,q.one M (.bl r)⟩
end
end DL
namespace DL
open PySem PySem.Spec PyProof.Rows L2
section
variable {X:Cx}
noncomputable def Ac:D->D->OB
 |.tup a,.tup b=>if a.isEmpty=true then some (.tup b,false)else none
 |_,_=>none
set_option tactic.hygienic true in
def Oq:dj X (binaryOp .Add) (rD X.K Ac):=by
 intro N s T H x y v u Q I g i q;refine e5 q λB Y z d bb U j k M q=>?_;cases j<;>try (cases M;done)
 cases k<;>try (cases M;done)
 rename_i l vs ds h R e ws es F a;simp only[Ac]at M;split at M
 .cases M
  cases g
  cases i
  refine I.tupE (bf U h) λD m o _=>?_;refine I.tupE (bf U F) λp A S _=>?_;refine cX λ_ g'=>?_;obtain⟨⟨W,Z,P,E⟩,f,G,n,J⟩:=id o;obtain⟨⟨r,b,data2,c⟩,O,t,L,w⟩:=id S;apply g';subst G;subst J;subst t;subst w;exact concat_meets ⟨_,f,rr⟩ ⟨_,O,rr⟩ noFill_tuple_add seq_tuple_add slot_tuple_add entry_tuple_add (args_tuple_add_2 _ _)
   (tuple_addW0 l e _ _ n L Z b E c (by
    have C:=R.length;have e2:=m.length;simp_all)) ⟨f,O,⟨.ref e,H,I,rr,q.one U (.tup F a)⟩⟩
 simp_all
@[simp] noncomputable def Kb:D->D->OB
 |.tup a,.tup b=>if a.length+b.length<=sizeLine then some (.tup (a++b),false)else none
 |_,_=>none
theorem Ot (c b:LD)(z:c.length+b.length<=sizeLine):UC BP Ac (.tup c) (.tup b)=some (.tup (c++b),false):=by
 cases c with
 |nil=>
  have:BP (.tup []) (.tup b)=none:=if_neg (λh=>by cases h.2);show(match BP _ _ with|some z=>some z|none=>Ac _ _)=_;rw[this];rfl
 |cons a l=>
  have:BP (.tup _) (.tup b)=some _:=if_pos ⟨z,rr⟩;show(match BP _ _ with|some z=>some z|none=>Ac _ _)=_;rw[this]
def SY:dj X (binaryOp .Add) (rD X.K Kb):=by
 refine jd (p9 Jp Oq) λx y H Q q=>e5 q λB c a d k b O U M q=>?_;refine⟨B,c,a,d,k,b,O,U,?_,q⟩;simp at M;split at M
 .simp_all[Ot]
 .cases M
end
section
variable {X:Cx}
@[simp] def xx9:D->D->OB
 |d,.tup [.ty n,.ty m]=>if Gx d=true then none else if n = "list"/\m = "tuple" then some (.bl (je d == "list" || je d == "tuple"),false)else none
 |_,_=>none
@[simp] def DH:LD->OB
 |[d,e]=>xx9 d e
 |_=>none
def Kc (I:Inv X l m H s)(i:Is X.K H v d)(P:∀n,d≠.ty n)(M:aI v u)(U:IsTup s.heap j g.toArray)(e:PySem.W.kitAny X.K (.type (je d)) g=some b)(h:∀R,Q (.bool b) { s with toks:=R }):
  wpAny (model X.prog X.w) A (call (.builtin "isinstance") [u,.ref j]) Q E s:=by
 obtain⟨⟨S,x,F,B⟩,O,V,n,a⟩:=id U;subst V;subst a;cases i with
 |non=>cases (show u=Value.none from M);exact PySem.W.kia_tup PySem.W.kitx_none I.kIn True.intro O e (λz=>nomatch z) h
 |bl y=>cases (show u=Value.bool y from M);exact PySem.W.kia_tup PySem.W.kitx_bool I.kIn True.intro O e (λz=>nomatch z) h
 |int i=>obtain⟨t,q⟩:=(show ∃t,u=Value.int i t from M);cases q;exact PySem.W.kia_tup PySem.W.kitx_int I.kIn True.intro O e (λz=>nomatch z) h
 |str y=>obtain⟨t,q⟩:=(show ∃t,u=Value.str y t from M);cases q;exact PySem.W.kia_tup PySem.W.kitx_str I.kIn True.intro O e (λz=>nomatch z) h
 |ty n=>exact absurd rr (P n)
 |dk k _ _=>
  cases M
  refine cX λY g'=>?_;obtain⟨Y,Y,Y,C,Y,o,Z,f,c,r,Y⟩:=(show bA X.prog X.w H s.heap _ (.dK _ _)from I.hok _ _ k);apply g';exact PySem.W.kia_tup PySem.W.kitx_dict I.kIn ⟨o,c,r.1⟩ O e (λz=>nomatch z) h
 |dt k _ _=>
  cases M
  obtain⟨Y,Y,G,Y,o,Z,f,c,r,Y⟩:=(show bA X.prog X.w H s.heap _ (.dT _)from I.hok _ _ k);exact PySem.W.kia_tup PySem.W.kitx_dict I.kIn ⟨o,c,r.1⟩ O e (λz=>nomatch z) h
 |tup U _=>
  cases M
  obtain⟨g,Y,⟨o,k,D,Y⟩,Y⟩:=I.tuple U;exact PySem.W.kia_tup PySem.W.kitx_tuple I.kIn ⟨o,k,D⟩ O e (λz=>nomatch z) h
 |lst p _=>
  cases M
  obtain⟨g,Y,⟨o,n,k,D,Y⟩,Y⟩:=I.list p;exact PySem.W.kia_tup PySem.W.kitx_list I.kIn ⟨o,k,D⟩ O e (λz=>nomatch z) h
set_option tactic.hygienic true in
def GH:bH X (.builtin "isinstance") (yM X.K DH):=by
 intro t s u H v x Q I a q;refine e6 q λB y d b M i e q=>?_;cases i with
 |nil=>cases e
 |@cons _ D _ _ P i=>
  cases i with
  |nil=>cases e
  |cons R i=>
   cases i with
   |cons _ _=>cases e
   |nil=>
    cases R<;>try (cases e)
    rename_i S w;cases w with
    |nil=>cases e
    |cons c w=>
     cases c<;>try (cases e)
     cases w with
     |nil=>cases e
     |cons f w=>
      cases f<;>try (cases e)
      cases w with
      |cons _ _=>cases e
      |nil=>
       obtain⟨l,m,rfl,g,h⟩:=Iv a;change(if _ then _ else _)=_ at e;split at e
       .cases e
       .rename_i j;have F:∀n,D≠.ty n:=λn z=>by subst z;exact j rr
        split at e
        .rename_i V;obtain⟨rfl,rfl⟩:=V;cases e
         cases h
         refine I.tupE (bf M S) λW k p _=>?_;obtain⟨o,r,rfl,O,U⟩:=k.two;cases O
         cases U
         exact Kc I (P.mono M) F g p (by
          obtain⟨_,_,_,M,O⟩:=Jl X.K D F;unfold PySem.W.kitAny;rw[M];cases je D == "list" with
          |true=>rfl
          |false=>
           unfold PySem.W.kitAny;rw[O];cases je D == "tuple" with
           |true=>rfl
           |false=>rfl) λZ=>⟨.bl _,H,I.tok Z,rr,q.one M (.bl _)⟩
        .cases e
end
@[simp] noncomputable def kP:D->Option dH
 |.int i=>some (.inl i)
 |.str x=>some (.inr x)
 |_=>none
def oj {K:Frag}{B:Hp}{v:V}{d:D}{k:dH}(i:Is K B v d)(e:kP d=some k):v=kV k:=by
 cases i<;>simp at e<;>cases e<;>rfl
noncomputable def bj {a:Type}[DecidableEq a]:List a->LD->a->Option D
 |k'::b,d::c,k=>if k'=k then some d else bj b c k
 |_,_,_=>none
theorem pJ {o:Type}[DecidableEq o]{K:Frag}{B:Hp}k:∀ {a:List o}{b:LV}{c:LD},a.length=b.length->IsL K B b c ->
  (∃v d,jA (a.zip b) k=some v/\bj a c k=some d/\Is K B v d)\/(jA (a.zip b) k=none/\bj a c k=none)
 |[],b,c,_,_=>.inr ⟨by cases b<;>rfl,by cases c<;>rfl⟩
 |k'::a,[],_,h,_=>by simp at h
 |k'::a,v::b,_,h,.cons i is=>by
  rw[zip_cons_cons];unfold bj;by_cases e:k'=k
  .rw[if_pos e];exact .inl ⟨v,_,by simp[jA,e],rr,i⟩
  .rw[if_neg e,nG e];exact pJ k (by simpa using h) is
section
variable {X:Cx}{o e i:Expr}{pos:Pos}
@[simp] def WD:D->D->OB
 |.dk a b,y=>(kP y).map λk=>((bj a b k).getD .non,false)
 |_,_=>none
def Kd {z D:Pos}{F K:FE}(R:X.A.units+1<cLine)(c:JE X o F)(S:JE X e K)(m:M1 X o "get" z e D):JE X (.Call (.Attribute o "get" z) [e] [] D) (f2 WD F K):=by
 refine PE.to (yZ R c S m) λJ H Q q=>?_;obtain⟨B,P,d,L,f,r,M,q⟩:=q;refine eX M λx V M=>?_;refine eX M λy g M=>?_;refine⟨B,P,x.1,x.2,f,r,V,λv n W U Z p=>?_⟩;obtain⟨N,s⟩:=x;cases Z with
 |@dk a T Y ds ob h u C=>
  refine eS M λk E M=>?_;cases M
  refine⟨a,rr,.inl ⟨_,_,.inl (U.nh _ _ h)⟩,W,P,y.1,y.2,U.nh,r.mono U.bn,g,λt H2 N2 O G i=>?_⟩;have I:=oj G E;subst I;refine⟨jA _ k,.inl ⟨_,k,_,.inl (O.nh _ _ (O.bn _ _ h)),rr,rr⟩,?_⟩;have j:=C.mono O.bn;rcases pJ k u j with⟨v,d',b,w,l⟩|⟨b,w⟩
  .rw[b];rw[w]at q;exact(q.into (U.trans O)).one O.nh l
  .rw[b];rw[w]at q;exact(q.into (U.trans O)).one O.nh .non
 |_=>simp at M
@[simp] def Ou:D->D->OB
 |.dk a b,y=>(kP y).bind λk=>(bj a b k).map λd=>(d,false)
 |_,_=>none
def Ta {z D:FE}(K:X.A.units+1<cLine)(c:JE X o z)(P:JE X i D)(R:RJ i):JE X (.Subscript o i pos) (f2 Ou z D):=by
 refine PE.to (Nq K c P R) λG H Q q=>?_;obtain⟨B,F,d,I,f,r,M,q⟩:=q;refine eX M λx S M=>?_;refine eX M λy g M=>?_;refine⟨B,F,x.1,x.2,f,r,S,λv m V U W n=>?_⟩;obtain⟨J,p⟩:=x;cases W with
 |@dk a L N T Y h Z b=>
  refine eX M λk t M=>?_;refine eS M λd0 u M=>?_;cases M
  refine⟨V,F,y.1,y.2,U.nh,r.mono U.bn,g,λs H2 N2 O C e=>?_⟩;have E:=oj C t;subst E;rcases pJ k Z (b.mono O.bn)with⟨v,d',j,w,l⟩|⟨_,w⟩
  .rw[u]at w;cases w
   exact⟨a,v,rr,.inl ⟨_,k,_,.inl (O.nh _ _ (O.bn _ _ h)),rr,j.symm⟩,(q.into (U.trans O)).one O.nh l⟩
  lia
 |_=>simp at M
@[simp] def UH:D->D->OB
 |y,.dk a b=>(kP y).map λk=>(.bl (bj a b k).isSome,false)
 |_,_=>none
@[simp] def yg:D->D->OB
 |y,.dk a b=>(kP y).map λk=>(.bl (!(bj a b k).isSome),false)
 |_,_=>none
def pK {a:Type}[DecidableEq a]{K:Frag}{B:Hp}{k:a}{b:List a}{c:LV}{q:LD}(r:b.length=c.length)(w:IsL K B c q):(jA (b.zip c) k).isSome=(bj b q k).isSome:=by
 grind[pJ]
def Tc(F:X.A.units+1<cLine)(K:JE X i w)(b:JE X o z)(P:behindInMarks .In o=false):JT X (.Compare i [.In] [o] pos) (aY (f2 UH w z)):=by
 refine PT.to (Ig (IG F K b) P) λt H Q q=>?_;obtain⟨B,D,d,u,c,r,M,q⟩:=p7 q;refine eX M λy f M=>eX M λx R M=>?_;refine⟨B,D,y.1,y.2,c,r,f,λg j S O V e=>⟨S,D,x.1,x.2,O.nh,r.mono O.bn,R,λv C E U W l=>?_⟩⟩;obtain⟨G,m⟩:=x;cases W with
 |@dk a I J L N h Z n=>
  refine eS M λk p M=>?_;cases M
  have s:=oj V p;subst s;refine⟨a,jA _ k,rr,.inl ⟨_,k,_,.inl (U.nh _ _ h),rr,rr⟩,?_⟩;rw[pK Z n];exact(q.into (O.trans U)).one U.nh (.bl _)
 |_=>simp at M
def GI(F:X.A.units+1<cLine)(K:JE X i w)(b:JE X o z)(P:behindInMarks .NotIn o=false):JT X (.Compare i [.NotIn] [o] pos) (aY (f2 yg w z)):=by
 refine PT.to (Ig (Go F K b) P) λt H Q q=>?_;obtain⟨B,D,d,u,c,r,M,q⟩:=p7 q;refine eX M λy f M=>eX M λx R M=>?_;refine⟨B,D,y.1,y.2,c,r,f,λg j S O V e=>⟨S,D,x.1,x.2,O.nh,r.mono O.bn,R,λv C E U W l=>?_⟩⟩;obtain⟨G,m⟩:=x;cases W with
 |@dk a I J L N h Z n=>
  refine eS M λk p M=>?_;cases M
  have s:=oj V p;subst s;refine⟨a,jA _ k,rr,.inl ⟨_,k,_,.inl (U.nh _ _ h),rr,rr⟩,?_⟩;rw[pK Z n];exact(q.into (O.trans U)).one U.nh (.bl _)
 |_=>simp at M
end
noncomputable def cK {a:Type}[DecidableEq a](b:List a)(k:a):List a:=if k∈b then b else b++[k]
noncomputable def cA {a b:Type}[DecidableEq a](c:List a)(o:List b)(k:a)(x:b):List b:=if k∈c then List.zipWith (λq M=>if q=k then x else M) c o else o++[x]
theorem DI {b:Type}[DecidableEq b]k:∀ {a:List b}{c:LV},a.length=c.length->((a.zip c).any λo=>decide (o.1=k))=decide (k∈a)
 |[],_,_=>by simp
 |k'::a,[],h=>by simp at h
 |k'::a,v::c,h=>by
  have M:=DI k (by simpa using h);simp_all<;>lia
theorem DJ {c:Type}[DecidableEq c](k:c)(v:V):∀(a:List c)(b:LV),(a.zip b).map (λo=>if o.1=k then (o.1,v)else o)=a.zip (List.zipWith (λk' M=>if k'=k then v else M) a b)
 |[],_=>by simp
 |_::_,[]=>by simp
 |k'::a,w::b=>by
  rw[zip_cons_cons,uY,DJ k v a b,List.zipWith_cons_cons,zip_cons_cons];lia
def rb {b:Type}[DecidableEq b]{a:List b}(o:a.length=c.length)(k)v:p4 (a.zip c) k v=(cK a k).zip (cA a c k v):=by
 unfold p4 cK cA;rw[DI k o];by_cases h:k∈a
 .rw[if_pos (qV h),if_pos h,if_pos h,DJ]
 simp_all[List.zip_append]
def oq {a c:Type}[DecidableEq a]{b:List a}{o:List c}(q:b.length=o.length)k x:(cK b k).length=(cA b o k x).length:=by
 unfold cK cA;split<;>simp[q]
theorem IsL.zipWith {a:Type}[DecidableEq a]{K:Frag}{k:a}(i:Is K B v d):∀ {b:List a}{c:LV}{o:LD},IsL K B c o->IsL K B (List.zipWith (λk' M=>if k'=k then v else M) b c) (List.zipWith (λk' M=>if k'=k then d else M) b o)
 |[],_,_,_=>by simpa using IsL.nil
 |_::_,_,_,.nil=>by simpa using IsL.nil
 |k'::b,_,_,.cons h t=>by
  rw[List.zipWith_cons_cons];refine .cons ?_ (IsL.zipWith i t);split<;>simp_all
def IsL.put {a:Type}[DecidableEq a]{K:Frag}{B:Hp}{k:a}{v:V}{d:D}(i:Is K B v d){b:List a}{c:LV}{o:LD}(h:IsL K B c o):IsL K B (cA b c k v) (cA b o k d):=by
 unfold cA;split
 .exact h.zipWith i
 .exact h.append (.cons i .nil)
section
variable {K:Frag}{E:Ends}{σ:St}{H:Hp}
noncomputable def DK (i:Nat):FS:=λa=>some (.nx (a.set i (some (.dk [] [],true))))
noncomputable def DM (i:Nat):FS:=λa=>some (.nx (a.set i (some (.dt [] [],true))))
def dG.newBox (s:dG K f g N H σ d)(i:Nat)(a:H p=none)(D:∀C,Bx K C ob h):dG K f g (upd N p ob) (upd H p ob) (σ.set i (some (.ref p))) (d.set i (some (h,true))):=by
 have x:=Ext.laid (o:=ob) s.ext.nh a;have F:=s.grow x;have M:=s.ext.nh.free a;have O:¬own σ d p:=λz=>by obtain⟨S,⟨q,y⟩,y⟩:=s.owned z;simp_all
 have c:aS _ (dZ (upd N p ob) (λb=>own σ d b\/b=p)):=eB λb u e q=>⟨x.bn _ _ e,λz=>z.elim q λz=>by subst z;rw[M]at e;cases e⟩;refine F.bindOwn av (s.ext.hh.free a) (λj e q z=>O ⟨j,e,q,z⟩) (λj e y q=>?_) (λj e y q=>?_) (D _)
 .obtain⟨w,k,r⟩:=s.sh j e q;exact⟨w,k,r.mono c⟩
 .obtain⟨U,P,k,r,_,R⟩:=s.ow j e q;exact⟨U,P,k,x.bn _ _ r,R.mono c⟩
def w4 (i:Nat)(O U:FE):FS:=λa=>match a[i]? with
 |some (some (.dk b c,true))=>(U a).bind λv=>(O a).bind λk=>(kP k.1).bind λM=>if bi v.1=true/\b.length<sizeLine then some (.nx (a.set i (some (.dk (cK b M) (cA b c M v.1),true))))else none
 |_=>none
set_option tactic.hygienic true in
def Kg {i:Nat}{M O:FE}(q:nH K (w4 i M O) E σ H):Dj (Ie i) (tD K M) (tD K O) E σ H:=by
 obtain⟨C,G,P,r,⟨N,s⟩,e,p⟩:=q;unfold w4 at e;split at e
 .rename_i S V D;refine eX e λv W e=>?_;refine eX e λk X e=>?_;refine eX e λc Z e=>?_;split at e
  .rename_i hx;cases e
   refine⟨N,P,v.1,v.2,s.ext.nh,s.rep,W,λh j t d u _=>?_⟩;have w:=s.grow d;obtain⟨a,o,F,I,J,L⟩:=w.ow i _ D;refine⟨.ref a,F,t,P,k.1,k.2,w.ext.nh,w.rep,X,λl Q T U x _=>?_⟩;have z:=w.grow U;have y:=oj x Z;subst y;obtain⟨m,Y,b,A,n,f⟩:=z.ow i _ D;rw[F]at b;cases b
   cases f with
   |@dk S vs V R B ob=>
    refine⟨a,rr,.inl ⟨_,c,_,z.ext.nh _ _ A,rr,?_,λg=>?_⟩⟩
    .rw[length_zip];grind
    .rw[rb R];exact p σ _ ⟨_,z.writeB D F (.dk (oq R _ _) (B.put (z.flat (u.mono U.bn) hx.1)))⟩
  .cases e
 simp_all
end
section
variable {X:Cx}{pos:Pos}{e k:Expr}
def Ov (M:X.N.Nodup)(a:X.N[i]? = some x)(hx:M7 X.env.scope x)(b:swapsWith (.Dict [] [] d) (some (.Name x p)) pos.line X.env=pure false)
  (c:X.fn x=true\/X.env.scope.names.lookup x=some .local):JS X (.Assign [.Name x p] (.Dict [] [] d) pos) (DK i):=PS.to (xz M a hx (λa s b H Q I h=> wpAny_Dict_empty ⟨.ref _,_,I.laid (λz z=>vZ _) (vT _) (yY _ I.big),rr,h _ _ (I.hok.fresh (vT _))⟩:PE X (.Dict [] [] d) II) b c) λz z z q=>by
   obtain⟨c,k,o,r,⟨N,s⟩,e,p⟩:=q;cases e
   exact λa w b=>p _ _ ⟨_,s.newBox i b λz=>.dk (ks:=[]) rr .nil⟩
def Ow (M:X.N.Nodup)(a:X.N[i]? = some x)(hx:M7 X.env.scope x)(b:swapsWith (.Dict [] [] d) (some (.Name x p)) pos.line X.env=pure false)
  (c:X.fn x=true\/X.env.scope.names.lookup x=some .local):JS X (.Assign [.Name x p] (.Dict [] [] d) pos) (DM i):=PS.to (xz M a hx (λa s b H Q I h=> wpAny_Dict_empty ⟨.ref _,_,I.laid (λz z=>vZ _) (vT _) (IH _ I.big),rr,h _ (I.hok.fresh (vT _))⟩:PE X (.Dict [] [] d) IJ) b c) λz z z q=>by
   obtain⟨c,k,o,r,⟨N,s⟩,e,p⟩:=q;cases e
   exact λa b=>p _ _ ⟨_,s.newBox i b λz=>.dt (ks:=[]) rr .nil⟩
def Ox (a:X.A.units+1<cLine)(b:JE X e d)(c:JE X k f)(U:X.N[i]? = some y)(M:M6 X.env.scope y)(o:bB y)
  (O:mo y) (r:swapsWith e (some (.Subscript (.Name y g) k pt)) pos.line X.env=pure false):JS X (.Assign [.Subscript (.Name y g) k pt] e pos) (w4 i f d):=
 PS.to (xG a (k8 U M o O) c b r) λz z z q=>Kg q
end
section
variable {prog:Program}{w:World}{A:Around}{E:QV}{s:Shared}
abbrev pL (h:Heap)(z TI TO M:Addr)(f:Bool):Prop:=h.get? z=some { cls:=.type "zip",dict:=none,data:=.fields #[rawInt M,.bool f,.bool false,.ref TI,.ref TO],slots:=#[] }
def Kh (e:s.heap.get? a=some o)(h:Q (some o) s):wpAny (model prog w) A (loadIfAlive a) Q E s:=by
 intro O p M;simp_all[loadIfAlive]
def w6 {z TI TO M:Addr}{f:Bool}{U:Obj}{Q:Bool->Shared->Prop}(c:pL s.heap z TI TO M f)(a:s.heap.get? M=some U)
  (q:∀b,pL b z TI TO M true->Heap.SameBut z s.heap b->Q false { s with heap:=b }):wpAny (model prog w) A (Builtin.SmallTypes.ownedTupleIsFree (.ref z)) Q E s:=by
 refine wX (wpAny_field c rr rr ?_);refine wX (Kh a (wX (wpAny_field c rr rr ?_)));cases f with
 |true=>
  exact wY (q _ c (.refl _ _))
 |false=>
  refine wX (wpAny_setField_rec c C_ λb O k=>wY (q b O k))
end
section
variable {prog:Program}{w:World}{A:Around}{E:QV}{s:Shared}
def GJ {a X:Bool}{z TI TO b F P R S:Addr}{f:Bool}{n:Obj}{j:Nat}{H I:AV}{x y:Value}{Q:QV}(Z:ZA z TI TO F P R S)
  (C:pL s.heap z TI TO b f) (p:s.heap.get? b=some n) (l:IsPair s.heap TI (.ref F) (.ref P)) (r:k6 a s.heap F R j) (t:k6 X s.heap P S j) (u:kH a s.heap R H) (N:kH X s.heap S I) (hx:H[j]? = some x) (T:I[j]? = some y)
  (q:∀K,pL K z TI TO b true->k6 a K F R (j+1)->k6 X K P S (j+1)->IsPair K s.z x y ->
   IsPair K TI (.ref F) (.ref P)->(∀o,s.heap.get? TO=some o->K.get? TO=some o)->(∀c o,c∉[z,TI,TO,F,P]->s.heap.get? c=some o->K.get? c=some o)->Q (.ref s.z) { s with heap:=K }):
  wpAny (model prog w) A (Builtin.«zip.__next__» ⟨[.ref z],[]⟩) (λY s'=>∃v,Y=.done (.ret v)/\Q v s') E s:=by
 obtain⟨D,m1,J⟩:=Z;show wpAny _ _ (field (.ref z) 2>>=_) _ _ s;refine wX (wpAny_field C rr (x:=.bool false) rr ?_);refine wX (wpAny_field C rr (x:=.ref TI) rr (wX (wpAny_seqItems l rr ?_)));refine wX (w6 C p λg1 d V=>?_);simp only[uV,if_false];refine wX ?_;refine wX (wX (wpAny_holding ?_));refine wX (fZ (s:={ s with heap:=g1 }) (r.upon λo e=>V.extBut _ _ D.az e) (u.upon λo e=>V.extBut _ _ m1.1 e) hx λm g G=>wY ?_);refine wY (wX (wX (wpAny_holding ?_)));have M:∀ {c o},c≠z->c≠F->s.heap.get? c=some o->m.get? c=some o:=λh c3 e=>G.extBut _ _ c3 (V.extBut _ _ h e);refine wX (fZ (s:={ s with heap:=m }) (t.upon λo e=>M D.bz D.ab.symm e) (N.upon λo e=>M J.1 J.2.2.1 e) T λi k U=>wY ?_);refine wY (wY ?_);refine wX (wpAny_newTuple (hsz:=(by decide:2<=sizeLine)) ?_);have sz:i.objs.size=s.z:=by rw[U.1,G.1,V.1]
 have O:∀c o,c≠z->c≠F->c≠P->s.heap.get? c=some o->i.get? c=some o:=λc o h c3 B e=>U.extBut _ _ B (M h c3 e);refine wY ⟨_,rr,?_⟩;have L:IsPair _ i.objs.size x y:=vY _ rr;rw[sz]at L |-;exact q _ (vZ _ (U.extBut _ _ D.bz.symm (G.extBut _ _ D.az.symm d))) (g.upon λo e=>vZ _ (U.extBut _ _ D.ab e)) (k.upon λo e=>vZ _ e) L (vZ _ (O _ _ D.tz D.ta D.tb l)) (λo e=>vZ _ (O _ _ D.oz D.oa D.ob e)) λc o W e=>by
  simp at W;exact vZ _ (O c o W.1 W.2.2.2.1 W.2.2.2.2 e)
def Ki {U G:Bool}{z TI TO a P R S V:Addr}{f:Bool}{h:Obj}{j:Nat}{W X:AV}{Q:PySem.Fin->Shared->Prop}(b:A.handled=none)(Z:ZA z TI TO P R S V)
  (u:pL s.heap z TI TO a f) (i:s.heap.get? a=some h) (k:IsPair s.heap TI (.ref P) (.ref R)) (d:k6 U s.heap P S j) (l:k6 G s.heap R V j) (g:kH U s.heap S W) (L:kH G s.heap V X) (T:W[j]? = none\/X[j]? = none)
  (q:∀y x,(∀c o,c∉[z,TI,TO,P,R]->s.heap.get? c=some o->y.get? c=some o)->(∃o,y.get? x=some o/\o.cls=.type "StopIteration")->E (.ref x) { s with heap:=y }):
  wpAny (model prog w) A (Builtin.«zip.__next__» ⟨[.ref z],[]⟩) Q E s:=by
 obtain⟨D,H,I⟩:=Z;show wpAny _ _ (field (.ref z) 2>>=_) _ _ s;refine wX (wpAny_field u rr (x:=.bool false) rr ?_);refine wX (wpAny_field u rr (x:=.ref TI) rr (wX (wpAny_seqItems k rr ?_)));refine wX (w6 u i λJ m K=>?_);refine wX ?_;refine wX (wX (wpAny_holding ?_));cases hx:W[j]? with
 |none=>
  exact wX (jq (s:={ s with heap:=J }) b (d.upon λo e=>K.extBut _ _ D.az e) (g.upon λo e=>K.extBut _ _ H.1 e) hx λO x B C=>q O x (λc o F e=>by simp at F;exact B _ _ F.2.2.2.1 (K.extBut _ _ F.1 e)) C)
 |some v=>
  have N:X[j]? = none:=by
   simp_all
  refine wX (fZ (s:={ s with heap:=J }) (d.upon λo e=>K.extBut _ _ D.az e) (g.upon λo e=>K.extBut _ _ H.1 e) hx λO n B=>wY ?_);refine wY (wX (wX (wpAny_holding ?_)));have M:∀ {c o},c≠z->c≠P->s.heap.get? c=some o->O.get? c=some o:=λp c3 e=>B.extBut _ _ c3 (K.extBut _ _ p e);exact wX (jq (s:={ s with heap:=O }) b (l.upon λo e=>M D.bz D.ab.symm e) (L.upon λo e=>M I.1 I.2.2.1 e) N λr x t C=>q r x (λc o F e=>by simp at F;exact t _ _ F.2.2.2.2 (M F.1 F.2.2.2.1 e)) C)
end
def Kj (O q:Bool)(z TI TO k o r w S:Addr)(i:Nat)(h:Heap):Prop:=
 IsPair h TI (.ref k) (.ref o)/\k6 O h k r i/\k6 q h o w i/\((IsZip h z TI TO .none/\∃a b,IsPair h TO a b)\/∃M f U c,pL h z TI TO M f/\h.get? M=some U/\M∉[z,TI,TO,k,o]/\M≠S/\h.get? TO=some c)
def Kj.keep{z TI TO q r K P S:Addr}(V:Kj M F z TI TO q r K P S i h)(O:S∉[z,TI,TO,q,r])(k:∀b o,b≠S->h.get? b=some o->h'.get? b=some o):Kj M F z TI TO q r K P S i h':=by
 obtain⟨U,c,d,g⟩:=V;have n:∀ {b},b∈[z,TI,TO,q,r]->b≠S:=λW e=>O (e ▸ W);refine⟨k _ _ (n C_) U,c.upon λo=>k _ o (n C_),d.upon λo e=>k _ o (n C_) e,?_⟩;rcases g with⟨w,a,b,D⟩|⟨j,f,l,m,w,D,X,R,p⟩
 .exact .inl ⟨k _ _ (n C_) w,a,b,k _ _ (n C_) D⟩
 .exact .inr ⟨j,f,l,m,k _ _ (n C_) w,k _ _ R D,X,R,k _ _ (n C_) p⟩
section
variable {prog:Program}{w:World}{A:Around}{E:QV}{s:Shared}{k1 k2:Bool}{z TI TO i1 i2 l1 l2 S:Addr}{j:Nat}{xs ys:AV}
def Kj.ty (c:Kj k1 k2 z TI TO i1 i2 l1 l2 S j h):∃o,h.get? z=some o/\o.cls=.type "zip":=by
 obtain⟨y,y,y,M⟩:=c;rcases M with⟨b,y⟩|⟨O,f,U,a,b,y⟩
 .exact⟨_,b,rr⟩
 .exact⟨_,b,rr⟩
def Kk (Z:ZA z TI TO i1 i2 l1 l2)(l:S<s.z)(X:Kj k1 k2 z TI TO i1 i2 l1 l2 S j s.heap)(i:kH k1 s.heap l1 xs)(G:kH k2 s.heap l2 ys)(hx:xs[j]? = some x)(H:ys[j]? = some y)
  (q:∀F,Kj k1 k2 z TI TO i1 i2 l1 l2 S (j+1) F->IsPair F s.z x y->(∀c o,c∉[z,TI,TO,i1,i2]->s.heap.get? c=some o->F.get? c=some o)->Q (some (.ref s.z)) { s with heap:=F }):
  wpAny (model prog w) A (pyNext (.ref z)) Q E s:=by
 have M:=X.ty;obtain⟨k,U,d,m⟩:=X;have N:∀ {c o},s.heap.get? c=some o->s.z≠c:=λe=>ne_of_gt (vX e);obtain⟨v,B,Y⟩:=U.ob;obtain⟨C,T,Y⟩:=d.ob;rcases m with⟨P,a,b,g⟩|⟨n,f,p,r,P,I,J,t,g⟩
 .refine wX (wpAny_attempt (wpAny_callSpecial?_slot M slot_zip_next (wpAny_call_entry slot_zip_next M entry_zip_next (zw Z P k g U d i G hx H λF R L V W O D h K=>wY ?_) (args_zip_next_1 _))));refine q F ⟨h,V,W,.inr ⟨_,false,_,_,R,O,?_,ne_of_gt l,L⟩⟩ O K;simp_all
 .refine wX (wpAny_attempt (wpAny_callSpecial?_slot M slot_zip_next (wpAny_call_entry slot_zip_next M entry_zip_next (GJ Z P I k U d i G hx H λF R V W O h u K=>wY ?_) (args_zip_next_1 _))));exact q F ⟨h,V,W,.inr ⟨n,true,p,r,R,K _ _ J I,J,t,u _ g⟩⟩ O K
def Kl (U:A.handled=none)(Z:ZA z TI TO i1 i2 l1 l2)(R:Kj k1 k2 z TI TO i1 i2 l1 l2 S j s.heap)(d:kH k1 s.heap l1 xs)(V:kH k2 s.heap l2 ys)(W:xs[j]? = none\/ys[j]? = none)
  (q:∀r,(∀c o,c∉[z,TI,TO,i1,i2]->s.heap.get? c=some o->r.get? c=some o)->Q none { s with heap:=r }):wpAny (model prog w) A (pyNext (.ref z)) Q E s:=by
 have M:=R.ty;obtain⟨e,g,h,k⟩:=R;unfold pyNext;rcases k with⟨D,a,b,i⟩|⟨l,f,m,n,D,X,t,p,i⟩
 .refine wX (wpAny_attempt (wpAny_callSpecial?_slot M slot_zip_next (wpAny_call_entry slot_zip_next M entry_zip_next (D0 U Z D e i g h d V W λr x F K=>?_) (args_zip_next_1 _))));obtain⟨o,O,P⟩:=K;exact wX (wpAny_isInstance (b:=true) ⟨o,O,P⟩ isSubtype_stop (wY (q r F)))
 .refine wX (wpAny_attempt (wpAny_callSpecial?_slot M slot_zip_next (wpAny_call_entry slot_zip_next M entry_zip_next (Ki U Z D X e g h d V W λr x F K=>?_) (args_zip_next_1 _))));obtain⟨o,O,P⟩:=K;exact wX (wpAny_isInstance (b:=true) ⟨o,O,P⟩ isSubtype_stop (wY (q r F)))
end
def Km (h:a≠b):upd (upd H a o) b u=upd (upd H b u) a o:=by
 funext c;unfold upd;lia
def kQ (h:H a=none):aS H (upd H a o):=λb u e=>by rw[a8 (aV e h)];exact e
section
variable {X:Cx}{ag:AO}{σ:St}{B H0:Hp}{A:Around}{R:Result->Shared->Prop}{k1 k2:Bool}{z TI TO i1 i2 l1 l2 S:Addr}{us ws:LV}{ds es:LD}
def GL (T:A.handled=none)(Z:ZA z TI TO i1 i2 l1 l2)(h:S∉[z,TI,TO,i1,i2])(h1:lH k1 X.K B l1 us)(C:IsL X.K B us ds)(h2:lH k2 X.K B l2 ws)(D:IsL X.K B ws es)
  (hR:∀M N vs s',Inv X ag σ (upd M S (.lst vs)) s'->M S=none->Ext B N H0 M->IsL X.K N vs (jr ds es)->R (.ok (.ret .none)) s'):
  ∀(k i:Nat)(s:Shared)(M N:Hp)(vs:LV),(jr ds es).length - i=k->i<=(jr ds es).length->Inv X ag σ (upd M S (.lst vs)) s->M S=none->Ext B N H0 M->(∀b∈[z,TI,TO,i1,i2],mm X ag (upd M S (.lst vs)) b) ->
   Kj k1 k2 z TI TO i1 i2 l1 l2 S i s.heap->IsL X.K N vs ((jr ds es).take i) ->
   codeAny (model X.prog X.w) A (.builtin "list.extend.loop" ⟨[.ref S,.ref z,.none],[]⟩) R s:=by
 have n1:=C.length;have n2:=D.length;have nz:(jr ds es).length=min ds.length es.length:=by simp[jr]
 intro k;induction k with
 |zero=>
  intro i s M N vs hk hi I hc O fp st j;have QX:i=(jr ds es).length:=N9
  have a:aS B (upd M S (.lst vs)):=(O.bn.trans O.nh).trans (kQ hc);obtain⟨its,l,m,E⟩:=(h1.same a).vals I;obtain⟨W,n,p2,Y⟩:=(h2.same a).vals I;have e1:=l.length;have e2:=n.length;refine codeAny_builtin PySem.F.entry_extend_loop ?_;rw[Around.under_plainId plain_extend_loop _];show wpAny _ A.in1 (pyNext (.ref z)>>=_) _ _ s;refine wX (Kl (A:=A.in1) T Z st m p2 ?_ λh' U=>?_)
  .by_cases q:ds.length<=es.length
   .left;simp;simp_all
   .right;simp_all;grind
  .refine wY (hR M N vs _ (lI (t':=s.toks) I fp U) hc O ?_);grind
 |succ k ih=>
  intro i s M N vs hk hi I hc O fp st j;have qM:i<(jr ds es).length:=N9
  have a:aS B (upd M S (.lst vs)):=(O.bn.trans O.nh).trans (kQ hc);refine cX λ_ g'=>?_;obtain⟨its,l,m,E⟩:=(h1.same a).vals I;obtain⟨W,n,p2,Y⟩:=(h2.same a).vals I;have d1:i<ds.length:=N9
  have d2:i<es.length:=N9
  obtain⟨x,hx,ix⟩:=C.get (vU d1);obtain⟨y,hy,iy⟩:=D.get (vU d2);obtain⟨u,hu,ru⟩:=l.get hx;obtain⟨v,hv,rv⟩:=n.get hy;have el:(jr ds es)[i]? = some (.tup [ds[i],es[i]]):=by
   simp_all[jr]
  obtain⟨zl,Mx,c,p,ev0,G⟩:=I.lstM av;apply g';have H:S<s.z:=vX G;refine codeAny_builtin PySem.F.entry_extend_loop ?_;show wpAny _ A.in1 (pyNext (.ref z)>>=_) _ _ s;refine wX (Kk (A:=A.in1) Z H st m p2 (by simpa using hu) (by simpa using hv) λh' Ic hp U=>?_);have J:upd M S (.lst vs) s.z=none:=I.hok.fresh (vT _);have r:s.z≠S:=ne_of_gt H;have d:M s.z=none:=by rw[a8 r]at J;exact J
  have new:bA X.prog X.w (upd (upd M S (.lst vs)) s.z (.tup [x,y])) h' s.z (.tup [x,y]):=⟨by show 2<=sizeLine;decide,[u,v],.cons ru (.cons rv .nil),⟨_,hp,rr,_,rr⟩⟩;have L:=D1 (s:=s) (t':=s.toks) I fp U (vT _) new;rw[Km r.symm]at L;have g:=U S _ h G;have t:Ext B (upd N s.z (.tup [x,y])) H0 (upd M s.z (.tup [x,y])):=O.trans (Ext.laid O.nh d);have vl:vs.length=i:=by rw[j.length,length_take];lia
  have zs:=zl;refine wX ?_;have lz:(vs++[V.ref s.z]).length<=sizeLine:=by
   rw[uZ,vl];have a1:=E;show i+1<=sizeLine;lia
  have P:=L.lset (t':=s.toks) (ys:=vs++[.ref s.z]) (its':=Mx++[.ref s.z]) (f:=(·.push (Value.ref s.z))) av g H9 (p.append (.cons (show aI (.ref _) (.ref _)from rr) .nil)) lz;rw[nA]at P;refine wpAny_updateSeq g rr (wY ⟨plainId_quiet plain_extend_loop _,ih (i+1) _ _ _ (vs++[.ref s.z]) N9 qM P (by rw[a8 r.symm];exact hc) t (λb hb=>?_) (Ic.keep h λb o hb e=>(Heap.get?_update_other _ _ (Ne.symm hb)).trans e) ?_⟩) N8 N8
  .obtain⟨Q,f1,f2,f3,f4,f5⟩:=fp b hb;refine⟨?_,f1,f2,f3,f4,f5⟩;have nb:b≠S:=λe=>h (e ▸ hb);rw[a8 nb]at Q |-;have nT:b≠s.z:=by
    obtain⟨hI,t1,t2,a4⟩:=st;obtain⟨o1,e1,_⟩:=t1.ob;obtain⟨o2,e2,_⟩:=t2.ob;have lt:∀ {c o},s.heap.get? c=some o->c≠s.z:=λe=>vS (vX e);grind
   rw[a8 nT];exact Q
  .rw[(by
   rw[take_add_one,el];rfl:(jr ds es).take (i+1)=(jr ds es).take i++[(DL.D.tup [ds[i], es[i]])])];exact(j.mono (Ext.laid O.nh d).bn).append (.cons (.tup (iH.of av) (.cons (ix.mono t.bn) (.cons (iy.mono t.bn) .nil))) .nil)
end
section
variable {X:Cx}{ag:AO}{σ:St}{B H:Hp}{s:Shared}{k1 k2:Bool}{z TI TO i1 i2 l1 l2:Addr}{us ws:LV}{ds es:LD}
def uM (E:X.A.handled=none)(I:Inv X ag σ H s)(Z:ZA z TI TO i1 i2 l1 l2)(fp:∀b∈[z,TI,TO,i1,i2],mm X ag H b)
  (G:IsPair s.heap TI (.ref i1) (.ref i2)) (u:k6 k1 s.heap i1 l1 0) (v:k6 k2 s.heap i2 l2 0) (hz:IsZip s.heap z TI TO .none) (J:IsPair s.heap TO a b)
  (L:aS B H) (h1:lH k1 X.K B l1 us) (P:IsL X.K B us ds) (h2:lH k2 X.K B l2 ws) (R:IsL X.K B ws es)
  (q:∀(S:Addr)(d N:Hp)(vs:LV),d S=none->Ext B N H d->IsL X.K N vs (jr ds es)->Q (.ref S) (upd d S (.lst vs))):
  wq X (call (.type "list") [.ref z]) (EP X ag σ Q) X.xe s:=by
 have lt:∀ {c o},s.heap.get? c=some o->s.z≠c:=λe=>ne_of_gt (vX e);have M:s.z∉[z,TI,TO,i1,i2]:=by
  obtain⟨o1,e1,l⟩:=u.ob;obtain⟨o2,e2,l⟩:=v.ob;simp_all
 have w:s.z≠z:=lt hz;have k:Kj k1 k2 z TI TO i1 i2 l1 l2 s.z 0 s.heap:=⟨G,u,v,.inl ⟨hz,a,b,J⟩⟩;have hc:H s.z=none:=I.fresh;refine callType_codes (Q₁:=λobj U=>obj=.ref s.z/\U={ s with heap:=s.heap.push { cls:=.type "list",data:=.seq #[] } }) PySem.F.called_list (PySem.F.typeCall_list_1 _) PySem.F.entry_list_init
  (code_list_new _ ⟨rr,rr⟩) λobj U g=>?_
 obtain⟨rfl,rfl⟩:=g;have h:(s.heap.push { cls:=.type "list",data:=.seq #[] }).get? s.z=some _:=vY _ rr;have V:=I.lnew (t':=s.toks) (its:=[]) .nil (uN _);refine⟨⟨_,h,rr⟩,PySem.F.args_list_init_2 _ _,?_⟩;refine wX ?_;unfold Builtin.List.listItems;refine wX (wpAny_seqItems h rr (wY ?_));refine wX (wpAny_updateSeq h rr ?_);have i:=V.lset (t':=s.toks) (ys:=[]) (its':=[]) (f:=λl=>#[]) av h rr .nil (uN _);have O:=(k.keep M λb o l e=>vZ _ e).keep (h':=(s.heap.push { cls:=.type "list",data:=.seq #[] }).update s.z (Obj.mapSeq λl=>(#[]:AV))) M λb o hb e=>(Heap.get?_update_other _ _ (Ne.symm hb)).trans e;rw[nA]at i;generalize m:(s.heap.push { cls:=.type "list",data:=.seq #[] }).update s.z (Obj.mapSeq λl=>(#[]:AV))=g2 at i O |-;obtain⟨l,W,c2,Y,l,x⟩:=i.lstM av;have e2:=Y.zero;subst e2;refine wX (wpAny_letGo ?_);unfold Builtin.List.listExtendWith;refine wX (wpAny_typeOf (T:="zip") O.ty ?_);have n:Builtin.List.listSameRef (.ref s.z) (.ref z)=false:=by simp[Builtin.List.listSameRef,w]
 have B6:(Value.type "zip" == Value.type "list")=false:=q9
 have p:(Value.type "zip" == Value.type "tuple")=false:=q9
 simp only[n,B6,p,Bool.or_false,uV,if_false];have r:IsZip g2 z TI TO .none:=by
  rw[<-m];exact(Heap.get?_update_other _ _ w).trans (vZ _ hz)
 refine wX (wpAny_pyIter_zip r ?_);refine wX (wpAny_holding ?_);unfold Builtin.List.listLengthHint;refine wX (wpAny_specialOf (T:="zip") O.ty q9 ?_);refine wX (wpAny_specialOf (T:="zip") O.ty q9 ?_);refine wY ?_;refine wX (wpAny_rule ?_);refine wX ?_;refine wX (wpAny_updateSeq x rr ?_);have j:=i.lset (t':=s.toks) (ys:=[.non]) (its':=[.none]) (f:=(·.push .none)) av x rr (.cons (show aI .non .none from rr) .nil) (by show 1<=sizeLine;decide);have y:=O.keep (h':=g2.update s.z (Obj.mapSeq (·.push .none))) M λb o hb e=>(Heap.get?_update_other _ _ (Ne.symm hb)).trans e;rw[nA]at j;generalize hg3:g2.update s.z (Obj.mapSeq (·.push .none))=g3 at j y |-;obtain⟨l,afY,c3,v3,l,C⟩:=j.lstM av;obtain⟨n3,rfl,r3⟩:=v3.one;cases r3
 refine wpAny_updateSeq (hz:=by omega<;>decide) C rr ?_
 have D:=j.lset (t':=s.toks) (ys:=[]) (its':=[]) (f:=(·.pop)) av C rr .nil (uN _);have t:=y.keep (h':=g3.update s.z (Obj.mapSeq (·.pop))) M λb o hb e=>(Heap.get?_update_other _ _ (Ne.symm hb)).trans e;rw[nA]at D;refine wY ⟨plainId_quiet plain_extend_loop _,GL (A:=X.A.in1) (B:=B) (H0:=H) E Z M h1 P h2 R (λd N vs s' I' Qc xt il=>?_) _ 0 _ H B [] rr (uN _) D hc (Ext.refl L) (λb hb=>?_) t .nil⟩
 .exact⟨rr,.ref s.z,_,I',rr,q _ d N vs Qc xt il⟩
 .obtain⟨f0,f1⟩:=fp b hb;refine⟨?_,f1⟩;grind[a8]
end
@[simp] def fLZ (a M:FE):FE:=λb=>(Jy a M b).map λc=>(.lst c,true)
section
variable {X:Cx}{a b:Expr}{pos p pos2 p2:Pos}
def Ck (x:X.calm=true)(hl:X.mg "list" = none)(hm:X.mg "zip" = none)(ha:JE X a fa)(hb:JE X b fb)(h:Gl X "list")(y:Gl X "zip")
  (hs:starEach [a,b] X.env=[(false,eval a X.env),(false,eval b X.env)]) (O:d4 b X.env)
  (e:starEach [.Call (.Name "zip" p2) [a,b] [] pos2] X.env=[(false,eval (.Call (.Name "zip" p2) [a,b] [] pos2) X.env)]):
  JE X (.Call (.Name "list" p) [.Call (.Name "zip" p2) [a,b] [] pos2] [] pos) (fLZ fa fb):=by
 intro ag s σ H Q I q;refine cX λ_ g'=>?_;obtain⟨B,ρ,d,bb,A,r,M,dF⟩:=q;apply g';refine eS M λzs f e2=>?_;cases e2
 clear M;have M:=f;clear f;refine eX M λu ex M=>?_;refine eX M λv C M=>?_;refine eX M λxs i M=>?_;refine eS M λys j M=>?_;subst M;refine wpAny_Call_Name_kw (jb I h hl BO ?_ I9 q9);refine PyProof.Rows.callWith_type1 ?_ (by rw[e];rfl) rr;rw[e];refine Calls.spliced_cons ?_;refine wpAny_Call_Name_kw (jb I y hm Q1 ?_ I9 q9);refine PyProof.Rows.callWith_type1 (bY (iJ ha (iJ hb p8 O) (by rw[dS,hs,O]) pos2 ag s σ H (λvs k=>∃N1,Ext B N1 H k/\IsL X.K N1 vs [u.1,v.1]) I ⟨B,ρ,[u.1,v.1],A,r,by simp[ao,aw,ex,C],λvs k N1 c i1=>⟨N1,c,i1⟩⟩) λus s1 ⟨vs,k,w,D,N1,c,E⟩=>?_) (by rw[hs,O]) (by rw[O];rfl);cases E with
 |cons F l=>
  cases l with
  |cons l G=>
   cases G
   refine cX λ_ g'=>?_;obtain⟨k1,l1,L,rfl,h1,m1⟩:=wb F i;obtain⟨k2,l2,P,rfl,h2,m2⟩:=wb l j;obtain⟨u1,u2,rfl,R,m⟩:=D.two;apply g';cases R
   cases m
   refine zx w (h1.same c.nh) (h2.same c.nh) λh' z TI TO i1 i2 J Z T c2 c3 V W fp=>Calls.spliced_nil (uM (B:=N1) (w.ok.hd x) J Z fp c2 V W T c3 c.nh h1 m1 h2 m2 λS Hc N vs n U t=>?_);have Y:=(c.trans U).trans (Ext.laid (o:=.lst vs) U.nh n);have g:=t.mono (Ext.laid (o:=.lst vs) U.nh n).bn;exact dF _ _ _ Y (.lst (fW.of av) g) λ_=>⟨_,_,_,rr,rr,(c.trans U).hh.free n,av,g⟩
end
end DL
namespace DL
open PySem PySem.Spec PyProof.Rows
def GN
  (hx:s.heap.get? a=some { cls:=.type "list",dict:=none,data:=.seq l k,slots:=m }) (U:A.handled=none)
  (h:∀r z,(∀b o,s.heap.get? b=some o->r.get? b=some o)->Q none { s with heap:=r,toks:=z }):
  wpAny (model j w) A (getAttr? (.ref a) "keys") Q E s:=by
 obtain⟨D,g,d,z,os⟩:=s;have O:∀M,(⟨D,g,d,M,os⟩:Shared).TypeIs (.ref a) "list":=λy=>⟨_,hx,rr⟩;have f1:=sub_AttributeError;have c:=slot_list_getattribute.lookup;have f:=slot_list_getattribute.bind (.ref a);have i:=am_list_getattr_none;unfold getAttr? getAttrBy? getAttrBy;repeat (any_goals (first|assumption|exact O _|(refine call_meets slot_list_getattribute (O _) am_entry_list_getattribute (PySem.F.args_list_getattribute_2 _ _) (meets_getattribute_miss_list a l k m "keys" _ q9 q9 I9) ⟨hx,U,λr M e q=>?_⟩)|wp_step))
 obtain⟨K,P,R⟩:=q.there;unfold getattributeRaised;repeat (any_goals (first|assumption|wp_step))
 exact h _ _ q.of.keeps
end DL
namespace DL
open PySem PySem.Spec PyProof.Rows L2
def hU:LD->Option (List (dH×D))
 |[]=>some []
 |.tup [k,v]::r=>(kP k).bind λM=>(hU r).map λl=>(M,v)::l
 |_=>none
noncomputable def sQ (a:LK×LD)(p:dH×D):LK×LD:=(cK a.1 p.1,cA a.1 a.2 p.1 p.2)
noncomputable def cb (l:List (dH×D)):LK×LD:=l.foldl sQ ([],[])
def sR l p:cb (l++[p])=sQ (cb l) p:=by simp[cb]
def xy1{r:LD}{l:List (dH×D)}(h:hU (d::r)=some l):∃k v,d=.tup [k,v]:=by
 cases d with
 |tup o=>rcases o with z|⟨a,z|⟨b,z|⟨c,o⟩⟩⟩<;>first|exact⟨_,_,rfl⟩|cases h
 |_=>cases h
theorem sU:∀ {a:LD}{l:List (dH×D)},hU a=some l->l.length=a.length
 |[],l,h=>by cases h;rfl
 |d::r,l,h=>by
  obtain⟨k,v,rfl⟩:=xy1 h;refine eX h λO z h=>?_;obtain⟨U,b,rfl⟩:=oY h;simp[sU b]
theorem sV:∀ {b:LD}{l:List (dH×D)}{i:Nat}{d:D},hU b=some l->b[i]? = some d->∃k v M,d=.tup [k,v]/\kP k=some M/\l[i]? = some (M,v)
 |[],l,i,d,_,h=>by simp at h
 |d0::r,l,i,d,h,a=>by
  obtain⟨k,v,rfl⟩:=xy1 h;refine eX h λM c h=>?_;obtain⟨U,o,rfl⟩:=oY h;cases i with
  |zero=>simp at a;subst a;exact⟨k,v,M,rr,c,rr⟩
  |succ i=>simp only[List.getElem?_cons_succ]at a |-;exact sV o a
def Kn (l:List (dH×D)):∀a:LK×LD,a.1.length=a.2.length->(l.foldl sQ a).1.length=(l.foldl sQ a).2.length/\(l.foldl sQ a).1.length<=a.1.length+l.length:=by
 induction l with
 |nil=>simp
 |cons p l M=>
  intro a h;have b:(sQ a p).1.length<=a.1.length+1:=by
   show(cK _ _).length<=_;unfold cK;split<;>simp
  have:=M (sQ a p) (oq h _ _);rw[foldl_cons,vE];exact⟨this.1,N9⟩
theorem GO l:(cb l).1.length=(cb l).2.length/\(cb l).1.length<=l.length:=by
 have:=Kn l ([],[]) rr;exact⟨this.1,vR this.2 H9⟩
def w9:entryFor table "dict.update.loop" = some Builtin.«dict.update.loop»:=entryFor_of_tree x8
section
variable {X:Cx}{ag:AO}{σ:St}{B H0:Hp}{A:Around}{R:Result->Shared->Prop}{it l d:Addr}{us:LV}{ds:LD}{j8:List (dH×D)}
set_option tactic.hygienic true in
def Cm (Z:A.handled=none)(nl:l≠it)(nd:d≠it)(hl:fW X.K B l us)(H:IsL X.K B us ds)(hp:hU ds=some j8)
  (hR:∀M N vs ob s',Inv X ag σ (upd M d (.dK ((cb j8).1.zip vs) ob)) s'->M d=none->Ext B N H0 M->(cb j8).1.length=vs.length->IsL X.K N vs (cb j8).2->R (.ok (.ret .none)) s'):
  ∀(k i:Nat)(tk:Nat)(s:Shared)(M N:Hp)(vs:LV)(ob:Obj),ds.length - i=k->i<=ds.length->Inv X ag σ (upd M d (.dK ((cb (j8.take i)).1.zip vs) ob)) s->M d=none->Ext B N H0 M->mm X ag (upd M d (.dK ((cb (j8.take i)).1.zip vs) ob)) it ->
   s.heap.IsListIter it l i->(cb (j8.take i)).1.length=vs.length->IsL X.K N vs (cb (j8.take i)).2 ->
   codeAny (model X.prog X.w) A (.builtin "dict.update.loop" ⟨[.ref d,.ref it,.int i tk,.none],[]⟩) R s:=by
 have n1:=H.length;have n2:=sU hp;intro k;induction k with
 |zero=>
  intro i tk s M N vs ob hk hi I hc O fp st hz hv;have QX:i=ds.length:=N9
  have m:aS B (upd M d (.dK ((cb (j8.take i)).1.zip vs) ob)):=(O.bn.trans O.nh).trans (kQ hc);refine I.lisE (m.seq hl) λits n p z1=>?_;have e1:=n.length;refine codeAny_builtin w9 ?_;rw[Around.under_plainId s9 _];refine wX (wpAny_pyNext_list_end (A:=A.in1) Z st p.isList N8 λh' HU=>?_);refine wX (wY (wY ?_));have f:=lI (t':=s.toks) (h':=h') (ch:=[it]) I (λb hb=>by rw[uT hb];exact fp) λb o hb e=>HU b o (λq=>hb (by simp[q])) e;rw[QX,<-n2,take_length]at f hz hv;exact hR M N vs ob _ f hc O hz hv
 |succ k ih=>
  intro i tk s M N vs ob hk hi I hc O fp st hz hv;have U:i<ds.length:=N9
  have m:aS B (upd M d (.dK ((cb (j8.take i)).1.zip vs) ob)):=(O.bn.trans O.nh).trans (kQ hc);refine I.lisE (m.seq hl) λits n p z1=>?_;refine cX λ_ g'=>?_;obtain⟨kd,J,g,ed,ek,el⟩:=sV hp (vU U);obtain⟨x,hx,L⟩:=H.get (vU U);apply g';rw[ed]at L;cases L with
  |@tup T xs _ hT t=>
   cases t with
   |cons ik r=>
    cases r with
    |cons iv r=>
     cases r
     rename_i xk P;have v:=oj ik ek;subst v;obtain⟨u,hu,ru⟩:=n.get hx;cases (show u=Value.ref T from ru)
     refine codeAny_builtin w9 ?_;rw[Around.under_plainId s9 _];refine wX (wpAny_pyNext_list_item (A:=A.in1) st p.isList (x:=.ref T) (by simpa using hu) λh' Ic hs=>?_);have f:=lI (t':=s.toks) (h':=h') (ch:=[it]) I (λb hb=>by rw[uT hb];exact fp) λb o hb e=>hs.extBut b o (λq=>hb (by simp[q])) e;refine f.tupE (bf m hT) λps r2 p2 z2=>?_;obtain⟨uk,uv,rfl,rk,rv⟩:=r2.two;have y:Shared.TypeIs { s with heap:=h' } (.ref T) "tuple":=by obtain⟨o,e,c,_⟩:=p2;exact⟨o,e,c⟩
     dsimp only;refine wX (wpAny_holding (wX (wpAny_tryCatch ?_)));unfold Builtin.Dict.pairItems;refine wX (wpAny_typeOf y ?_);obtain⟨oT,eT,cT,nT,dT⟩:=p2;rw[if_pos q9];refine wX (wpAny_seqItems eT dT (wY ?_));obtain⟨zz,z,C,rel,dd⟩:=qq f.hok (a:=d) av;have E:C.length<=sizeLine:=by rw[<-rel.length];exact zz
     have nk:((cb (j8.take i)).1.zip vs).length<sizeLine:=by
      grind[GO]
     refine wpAny_holding (wpAny_dictSet_pairs (hsz:=E) (qo rk) dd λh2 h Q=>?_);have MG:(p4 ((cb (j8.take i)).1.zip vs) g P).length<=sizeLine:=by grind[kB]
     obtain⟨F,S⟩:∃q,h2.get? d=some q:=let ⟨q,_,_,hq,_⟩:=h;⟨q,hq⟩;have V:=xF (t':=s.toks+1) f (a:=d) (by rw[av];exact True.intro) Q ⟨_,S⟩ (IF MG z (rel.put g rv) h S);rw[nA,rb hz]at V;have W:j8.take (i+1)=j8.take i++[(g,J)]:=by rw[take_add_one,el];rfl
     have j:(cb (j8.take (i+1))).1=cK (cb (j8.take i)).1 g:=by rw[W,sR];rfl
     have G:(cb (j8.take (i+1))).2=cA (cb (j8.take i)).1 (cb (j8.take i)).2 g J:=by rw[W,sR];rfl
     refine wY ⟨plainId_quiet s9 _,?_⟩;refine ih (i+1) 0 _ M N (cA (cb (j8.take i)).1 vs g P) F N9 U (by rw[j];exact V) hc O ?_ ?_ ?_ ?_
     .obtain⟨Y,f1⟩:=fp;refine⟨?_,f1⟩;rw[a8 nd.symm]at Y |-;exact Y
     .exact Ic.at λo e=>(Q.2 it nd.symm).trans e
     .rw[j];exact oq hz _ _
     .rw[G];exact hv.put (iv.mono O.bn)
end
@[simp] def ot:LD->OB
 |[.lst a]=>(hU a).map λM=>(.dk (cb M).1 (cb M).2,false)
 |_=>none
def Td:bootBuiltins "dict" = some (.type "dict"):=s9
section
variable {X:Cx}
set_option tactic.hygienic true in
def Te (x:X.calm=true):bH X (.type "dict") (yM X.K ot):=by
 intro ag s σ H xs us Q I r h;obtain⟨B,y,d0,bb,j,z,U,q⟩:=h;cases z with
 |nil=>simp[ot]at U
 |cons i1 i2=>
  cases i2 with
  |cons _ _=>cases i1<;>simp[ot]at U
  |nil=>
   cases i1<;>try (simp[ot]at U;done)
   rename_i l ws ds hl C;simp only[ot]at U;refine eS U λk hp U=>?_;cases U
   obtain⟨u,rfl,D⟩:=gA r;cases D
   have m:X.A.handled=none:=I.ok.hd x;refine callType_codes (Q₁:=λZ O=>Z=.ref s.z/\O={ s with heap:=s.heap.push _ }) PySem.F.kt_called_dict (PySem.F.kt_typeCall_dict_1 _) PySem.F.entry_dict_init (kt_code_dict_new _ ⟨rr,rr⟩) ?_;rintro Z O ⟨rfl,rfl⟩;have n:=I.laid (t':=s.toks) (λb o e=>vZ _ e) (vT _) (yY s.heap I.big);have a:H s.z=none:=I.fresh;refine⟨⟨_,vY _ rr,rr⟩,PySem.F.args_dict_init_2 _ _,?_⟩;unfold Builtin.«dict.__init__»;refine wX ?_;unfold Builtin.Dict.selfAndRest;refine wX (wpAny_notOrdered_dict ⟨_,vY _ rr,rr⟩ ?_);refine wY ?_;show wpAny _ _ (Builtin.Dict.updateFrom "dict.__init__" s.z (.ref l) [] .none) _ _ _;unfold Builtin.Dict.updateFrom;refine n.lisE ((j.trans (kQ a)).seq hl) λits S t T=>?_;have pl:=t.isList;refine cX λ_ g'=>?_;obtain⟨v,G,M,cl,c,dl⟩:=t;apply g';have f:Shared.TypeIs _ (.ref l) "list":=⟨v,M,cl⟩;refine wX (wpAny_typeOf f ?_);rw[if_pos q9];refine cX λ_ g'=>?_;obtain⟨oc,od,V,os⟩:=v;apply g';simp only at cl c dl;subst cl c dl;refine wX (GN M (by exact m) λY tk hk=>?_);dsimp only[Option.isNone_none];rw[if_pos rr];have g:=n.kept (t':=tk) hk;refine wX (wpAny_rule ?_);refine wX (wpAny_pyIter_list (items:=its.toArray) ⟨_,hk _ _ M,rr,G,rr⟩ ?_);have ld:s.z<Y.objs.size:=vX (hk _ _ (vY _ rr));have L:l<Y.objs.size:=vX (hk _ _ M);refine wY ⟨plainId_quiet s9 _,Cm (A:=X.A.in1) (B:=B) (H0:=H) (l:=l) (d:=s.z) (it:=Y.objs.size) m (vS L) (vS ld) hl C hp (λW N vs ob s' P w i hz hv=>?_) _ 0 0 _ H B [] _ rr (uN _) (g.kept (t':=tk) λb o e=>vZ _ e) a (Ext.refl j) (g.fpOk (vT _) (g.hok.fresh (vT _))) ⟨_,vY _ rr,rr,rr⟩ rr .nil⟩;refine⟨rr,.ref s.z,_,P,rr,?_⟩;have R:=i.trans (Ext.laid (o:=.dK ((cb k).1.zip vs) ob) i.nh w);exact q _ _ _ R (.dk av hz (hv.mono (Ext.laid (o:=.dK ((cb k).1.zip vs) ob) i.nh w).bn)) H9
end
def MC (h:n+40<cLine):n+1<cLine:=N9
def iP:LD->Option LK
 |[]=>some []
 |d::a=>(kP d).bind λk=>(iP a).map (k :: ·)
theorem yi {K:Frag}{b:LV}{c:LD}{a:LK}(h:IsL K B b c):iP c=some a->b=a.map kV:=by
 induction h using IsL.ind generalizing a with
 |n=>intro e;simp[iP]at e;subst e;rfl
 |s i _ n=>
  intro e;refine eX e λk o e=>?_;obtain⟨r,q,rfl⟩:=oY e;rw[oj i o,n q];rfl
@[simp] def Ko (c:FE)(o:FA):FE:=λa=>(c a).bind λx=>(o a).bind λb=>match x.1 with
 |.dt M q=>if b.length<=sizeLine then (iP b).map λk=>((bj M q k).getD .non,false)else none
 |_=>none
section
variable {X:Cx}{o:Expr}{es:QD}{pos:Pos}
def Kp {D F O:Pos}{U:Nat}{K:FE}{P:FA}(W:X.A.units+1<cLine)(i:JE X o K)(Z:JA X es P)(m:M1 X o "get" D (.Tuple es U O) F):JE X (.Call (.Attribute o "get" D) [.Tuple es U O] [] F) (Ko K P):=by
 refine PE.to (yZ W i (rP Z) m) λσ H Q q=>?_;obtain⟨B,R,d,bb,j,r,M,q⟩:=q;refine eX M λx C M=>?_;refine eX M λE l M=>?_;refine⟨B,R,x.1,x.2,j,r,C,λv t G U I u=>?_⟩;obtain⟨xd,w⟩:=x;cases I with
 |@dt a ks vs y h J L=>
  simp only at M;split at M
  .rename_i N;refine eS M λk T M=>?_;cases M
   refine⟨a,rr,.inr ⟨_,.inl (U.nh _ _ h)⟩,G,R,E,U.nh,r.mono U.bn,l,λS H2 N2 c V=>?_⟩;have Y:=yi V T;refine⟨by rw[V.length];exact N,λp hp=>?_⟩;have b:=Ext.laid (o:=.tup S) c.nh hp;have f:=c.bn _ _ h;refine⟨jA _ k,.inr ⟨_,k,p,.inl (b.nh _ _ (b.bn _ _ f)),rr,by rw[av,Y],rr⟩,?_⟩;have n:=(L.mono c.bn).mono b.bn;rcases pJ k J n with⟨v,d',g,z,s⟩|⟨g,z⟩
   .rw[g];rw[z]at q;exact(q.into ((U.trans c).trans b)).one b.nh s
   .rw[g];rw[z]at q;exact(q.into ((U.trans c).trans b)).one b.nh .non
  .cases M
 |_=>simp at M
end
section
variable {K:Frag}{E:Ends}{σ:St}{H:Hp}
def wA (i:Nat)(O:FA)(U:FE):FS:=λa=>match a[i]? with
 |some (some (.dt b k,true))=>(U a).bind λv=>(O a).bind λc=>(iP c).bind λM=>if bi v.1=true/\b.length<sizeLine/\c.length<=sizeLine then some (.nx (a.set i (some (.dt (cK b M) (cA b k M v.1),true))))else none
 |_=>none
set_option tactic.hygienic true in
def Kq {i:Nat}{O:FA}{U:FE}(q:nH K (wA i O U) E σ H):Dj (Ie i) (V6 (UA K O)) (tD K U) E σ H:=by
 obtain⟨I,J,F,r,⟨N,s⟩,e,p⟩:=q;unfold wA at e;split at e
 .rename_i V W z;refine eX e λv X e=>?_;refine eX e λZ n e=>?_;refine eX e λf t e=>?_;split at e
  .rename_i hx;cases e
   refine⟨N,F,v.1,v.2,s.ext.nh,s.rep,X,λj k u g x _=>?_⟩;have w:=s.grow g;obtain⟨a,o,D,L,Q,T⟩:=w.ow i _ z;refine⟨.ref a,D,u,F,Z,w.ext.nh,w.rep,n,λy Y N2 b P=>?_⟩;have R:=w.grow b;have A:=yi P t;refine⟨by rw[P.length];exact hx.2.2,λpp B=>?_⟩;have c:=Ext.laid (o:=.tup y) R.ext.nh B;have M:=R.grow c;obtain⟨l,o',d,C,m,h⟩:=M.ow i _ z;rw[D]at d;cases d
   cases h with
   |@dt V vs W S G=>
    refine⟨a,rr,.inr ⟨_,f,pp,M.ext.nh _ _ C,rr,by rw[av,A],?_,?_⟩⟩
    .rw[length_zip];simp_all
    .rw[rb S];exact p σ _ ⟨_,M.writeB z D (.dt (oq S _ _) (G.put (M.flat ((x.mono b.bn).mono c.bn) hx.1)))⟩
  simp_all
 simp_all
end
section
variable {X:Cx}{pos:Pos}{e:Expr}{es:QD}
def Oy (a:X.A.units+1<cLine)(b:JE X e d)(c:JA X es f)(U:X.N[i]? = some y)(M:M6 X.env.scope y)(k:bB y)
  (O:mo y) (o:swapsWith e (some (.Subscript (.Name y g) (.Tuple es h j) pt)) pos.line X.env=pure false):JS X (.Assign [.Subscript (.Name y g) (.Tuple es h j) pt] e pos) (wA i f d):=
 PS.to (xG a (k8 U M k O) (rP c) b o) λz z z q=>Kq q
end
end DL
namespace L2
open PySem PySem.Spec PyProof.Rows
noncomputable def ItK (a:Addr)(b:List (dH×V))(c:Obj):It:=⟨λi H=>H a=some (.dK b c)/\i<b.length,λi H x o=>o=H/\∃k v,b[i]? = some (k,v)/\x=kV k,λi H=>H a=some (.dK b c)/\b.length<=i⟩
noncomputable def ItV (a:Addr)(b:List (dH×V))(c:Obj):It:=⟨λi H=>H a=some (.dK b c)/\i<b.length,λi H x o=>o=H/\∃k,b[i]? = some (k,x),λi H=>H a=some (.dK b c)/\b.length<=i⟩
def KV.get(r:KV a b){i:Nat}{k:dH}(h:a[i]? = some (k,x)):∃u,b[i]? = some (k,u)/\aI x u:=by
 induction r generalizing i with
 |nil=>simp at h
 |@cons p q w U c t M=>
  cases i with
  |zero=>
   cases (show p=(k,x)from vK h)
   obtain⟨O,o⟩:=q;exact⟨o,by rw[show k=O from c.1];rfl,c.2⟩
  |succ i=>exact M h
def QA (h:(cO P w).is k u=true):aI (kV k) u:=by
 cases k with
 |inl i=>exact Value.isInt_shape h
 |inr z=>exact Value.isStrOf_shape h
section
variable {P:Program}{w:World}{H:Hp}{h:Heap}{a:Addr}
def m4 (c:ml P w H h)(e:H a=some (.dK d ob))(k:ob.data=.dict f U):∃b,KV d b/\h.DictAt (cO P w) a b U:=by
 obtain⟨y,y,b,r,o,M,O,q,D,z,F⟩:=qq c e;rw[BL c e]at q;cases q
 rw[k]at z;cases z
 exact⟨b,r,ob,f,BL c e,D,k,F⟩
def rd (b:ml P w H h)(e:H a=some (.dK d ob)):∃c M,ob.data=.dict c M:=by
 obtain⟨y,y,q,r,o,O,U,k,z,D,F⟩:=qq b e;rw[BL b e]at k;simp_all
end
def GP {P:Program}{w:World}{K:Frag}{Q:Expr}(a R:Addr)(F:List (dH×V))(J:Obj){T:Array DictEntry}{t:Nat}(L:J.data=.dict T t):Turn P w K Q (ItV a F J) [R] R (λi h=>h.IsValIter R a i F.length t) where
 mem:=H9
 obj:=λi h D b S=>by
  have e:b=R:=by simpa using S
  subst e;obtain⟨o,e,c,d⟩:=D;simp_all
 keep:=λi h B D k=>D.at λo e=>k R H9 o e
 item:=by
  intro X U C f N i Y s σ H E I W D g;subst U C f;obtain⟨j,O⟩:=g;obtain⟨G,r,m⟩:=m4 I.hok j L;obtain⟨l,f1,f2,n,p,q⟩:=W R H9;have Z:G.length=F.length:=(Paired.length r).symm;obtain⟨u,hu,ru⟩:=r.get (k:=F[i].1) (x:=F[i].2) (vU O);refine wpAny_pyNext_values_item (by rw[Z];exact D) m hu λB M v=>?_;rw[Z]at M;have y:=I.turned (t':=s.toks) (λb o S e=>(v.2 b S).trans e) l f1 n p q;obtain⟨o,e,c,d⟩:=id M;exact⟨u,rr,qj (s:={ s with heap:=B }) e c d q9 ⟨F[i].2,H,y,ru,⟨rr,F[i].1,vU O⟩,M,λb S=>(W b S).1⟩⟩
 done:=by
  intro X U C f N i Y s σ H E I W D g;subst U C f;obtain⟨j,A⟩:=g;obtain⟨G,r,m⟩:=m4 I.hok j L;obtain⟨l,f1,f2,n,p,q⟩:=W R H9;have Z:G.length=F.length:=(Paired.length r).symm;exact wpAny_pyNext_values_end (I.ok.hd N) (by rw[Z];exact D) m (getElem?_eq_none N9) λB z=>⟨rr,I.turned (t':=s.toks) (λb o S e=>z b o S e) l f1 n p q⟩
 self:=λ_ _ _ _ _ D h=>wpAny_pyIter_valiter D h
def GQ {P:Program}{w:World}{K:Frag}{Y:Expr}(a R:Addr)(D:List (dH×V))(N:Obj){es:Array DictEntry}{y:Nat}(Q:N.data=.dict es y):Turn P w K Y (ItK a D N) [R] R (λi h=>h.IsKeyIter R a i D.length y) where
 mem:=H9
 obj:=λi h F b S=>by
  have e:b=R:=by simpa using S
  subst e;obtain⟨o,e,c,d⟩:=F;simp_all
 keep:=λi h G F k=>F.at λo e=>k R H9 o e
 item:=by
  intro X f J g T i ag s σ H E I W F j;subst f J g;obtain⟨l,O⟩:=j;obtain⟨L,r,m⟩:=m4 I.hok l Q;obtain⟨n,f1,f2,p,q,t⟩:=W R H9;have Z:L.length=D.length:=(Paired.length r).symm;obtain⟨u,hu,ru⟩:=r.get (k:=D[i].1) (x:=D[i].2) (vU O);refine wpAny_pyNext_dict_item (by rw[Z];exact F) m hu λv G U M z=>?_;rw[Z]at M;have A:=I.turned (t':=s.toks) (λb o S e=>(z.2 b S).trans e) n f1 p q t;obtain⟨o,e,c,d⟩:=id M;exact⟨v,rr,qj (s:={ s with heap:=G }) e c d q9 ⟨kV D[i].1,H,A,QA U,⟨rr,D[i].1,D[i].2,vU O,rr⟩,M,λb S=>(W b S).1⟩⟩
 done:=by
  intro X f J g T i ag s σ H E I W F j;subst f J g;obtain⟨l,C⟩:=j;obtain⟨L,r,m⟩:=m4 I.hok l Q;obtain⟨n,f1,f2,p,q,t⟩:=W R H9;have Z:L.length=D.length:=(Paired.length r).symm;exact wpAny_pyNext_dict_end (I.ok.hd T) (by rw[Z];exact F) m (getElem?_eq_none N9) λG B=>⟨rr,I.turned (t':=s.toks) (λb o S e=>B b o S e) n f1 p q t⟩
 self:=λ_ _ _ _ _ F h=>wpAny_pyIter_keyiter F h
section
variable {X:Cx}{tg:Expr}
def WE (O:TE):TI:=λk H R=>O k H λx M=>∃a b c,x=.ref a/\M a=some (.dK b c)/\R (ItK a b c) M
def Oz(c:PE X o U):PI X tg o (WE U):=by
 intro V s D H R I h;refine bY (c _ s D H _ I h) λv k ⟨x,d,M,f,a,W,F,K,O,q⟩=>?_;subst K;cases f
 obtain⟨Z,g,w⟩:=rd M.hok O;obtain⟨i,r,m⟩:=m4 M.hok O w;refine wpAny_pyIter_dict (qq M.hok O).2.1 m ?_;rw[(Paired.length r).symm];refine⟨k.z,[k.z],_,_,d,rr,M.kept λb o=>vZ _,GQ a _ _ F w,⟨_,vY _ rr,rr,rr⟩,λb S=>?_,q⟩;have e:=by simpa using S
 subst e;exact M.fpOk (vT _) (M.hok.fresh (vT _))
def WG (O:TE):TI:=λk H R=>O k H λx M=>∃a b c,x=.ref a/\M a=some (.dK b c)/\R (ItV a b c) M
def O0 {o:Expr}{f:TE}{z D:Pos}(j:PE X o f)(M:attributeBase o "values" X.env (eval o X.env)=eval o X.env:=by rfl)(O:(z.endLine == D.line)=true:=by rfl):PI X tg (.Call (.Attribute o "values" z) [] [] D) (WG f):=by
 intro K s P H R I h;refine wpAny_Call_method0_late M O (bY (j K s P H _ I h) λv w ⟨x,g,U,i,a,S,V,l,c,q⟩=>?_);subst l;obtain⟨W,n⟩:=BK U i (T:="dict") (.inr (.inr (.inl ⟨rr,.inl ⟨S,V,c⟩⟩)));cases i
 obtain⟨y,k,Z⟩:=rd U.hok c;obtain⟨p,r,m⟩:=m4 U.hok c Z;have t:=(Paired.length r).symm;refine⟨"dict","dict.values",plainAttrs_dict,PySem.F.slot_dict_values,PySem.F.type_dict_values,W,n,Calls.callWith_builtin rr (PySem.evalArgs_none ?_)⟩;refine call_meetsIn PySem.F.slot_dict_values W PySem.F.entry_dict_values (PySem.F.args_dict_values_1 _) (meets_dict_values _ a (qq U.hok c).2.1) ⟨⟨p,m.dictOf⟩,?_⟩;have d:Inv X K P g { w with heap:=w.heap.push { cls:=.type "dict_values",data:=.fields #[.ref a] } }:=U.kept λb o e=>vZ _ e;refine wpAny_pyIter_values ⟨_,vY _ rr,rr,rr⟩ (m.keep λb o e=>vZ _ e) ?_;rw[t];refine⟨(w.heap.push _).objs.size,[(w.heap.push _).objs.size],_,_,g,rr,d.kept λb o e=>vZ _ e,GP a _ S V Z,⟨_,vY _ rr,rr,rr⟩,λb u=>?_,q⟩;have e:b=(w.heap.push { cls:=.type "dict_values",data:=.fields #[.ref a] }).objs.size:=by simpa using u
 subst e;exact d.fpOk (vT _) (d.hok.fresh (vT _))
end
end L2
namespace DL
open PySem PySem.Spec PySem.W PyProof.Rows L2
noncomputable def kD:dH->D
 |.inl i=>.int i
 |.inr z=>.str z
def QB {K:Frag}{B:Hp}k:Is K B (kV k) (kD k):=by
 cases k with
 |inl i=>exact .int i
 |inr z=>exact .str z
section
variable {K:Frag}{B:Hp}
def O1 {a:Addr}{c:LK}{b:LV}{o:LD}{q:Obj}(h:B a=some (.dK (c.zip b) q))(R:c.length=b.length)(r:IsL K B b o):mD K (ItV a (c.zip b) q) B o:=by
 intro i H s;have w:(c.zip b).length=b.length:=by rw[length_zip];simp_all
 refine⟨λd D=>?_,λM=>⟨s _ _ h,by rw[w,r.length];exact M⟩⟩;obtain⟨v,z,F⟩:=r.get D;have O:=(vV z).1;refine⟨⟨s _ _ h,by rw[w];exact O⟩,λy U P=>?_⟩;obtain⟨rfl,k,e⟩:=P;have:=(getElem?_zip_eq_some.mp e).2;rw[z]at this;cases this
 exact⟨B,.refl s,F⟩
def O2{b:LK}{c:LV}{o:Obj}(h:B a=some (.dK (b.zip c) o))(D:b.length=c.length):mD K (ItK a (b.zip c) o) B (b.map kD):=by
 intro i H s;have w:(b.zip c).length=b.length:=by rw[length_zip];simp_all
 refine⟨λd q=>?_,λO=>⟨s _ _ h,by simp_all⟩⟩;rw[vA]at q;obtain⟨F,r,rfl⟩:=oY q;refine⟨⟨s _ _ h,by rw[w];exact (vV r).1⟩,λy U z=>?_⟩;obtain⟨rfl,k,v,e,rfl⟩:=z;have:=(getElem?_zip_eq_some.mp e).1;rw[r]at this;cases this
 exact⟨B,.refl s,QB _⟩
end
section
variable {X:Cx}{e:Expr}{tg:Expr}
@[simp] noncomputable def yj (f:FE):FA:=λa=>(f a).bind λx=>match x.1 with|.dk _ b=>some b|_=>none
@[simp] noncomputable def yk (f:FE):FA:=λa=>(f a).bind λx=>match x.1 with|.dk b _=>some (b.map kD)|_=>none
def O3 (h:JE X e f)(M:attributeBase e "values" X.env (eval e X.env)=eval e X.env)(O:(i.endLine == j.line)=true):JI X tg (.Call (.Attribute e "values" i) [] [] j) (yj f):=by
 intro l s w H R I q;refine cX λy g'=>?_;obtain⟨B,z,D,b,r,c,q⟩:=q;obtain⟨⟨F,g⟩,K,k⟩:=oX c;apply g';cases F<;>try (cases k;done)
 cases k
 refine O0 h M O _ s w H R I ⟨B,z,_,_,b,r,K,λv d P U S y=>?_⟩;cases S with
 |@dk a m n D V o W Z=>exact⟨a,_,V,rr,U.nh _ _ o,q _ d P U (O1 o W Z)⟩
def O4(h:JE X e f):JI X tg e (yk f):=by
 intro Z s w H R I q;refine cX λy g'=>?_;obtain⟨B,z,D,O,r,U,q⟩:=q;obtain⟨⟨F,c⟩,K,k⟩:=oX U;apply g';cases F<;>try (cases k;done)
 cases k
 refine Oz h _ s w H R I ⟨B,z,_,_,O,r,K,λv b P M S y=>?_⟩;cases S with
 |@dk a d g D V o W i=>exact⟨a,_,V,rr,M.nh _ _ o,q _ b P M (O2 o W)⟩
end
end DL
namespace DL
open PySem PySem.Spec PyProof.Rows L2
@[simp] abbrev bF (i:Nat)(j:Int):FE:=f2 cI (ak i) (fC (.int j))
def WH (F:Fn X.prog X.w X.K X.mg X.base k x f)(U:eQ j X.A)(b:JA X (e::d) h)(c:k<=j)(a:Gl X x)(M:bB x)(o:dS e d X.env)(O:k7 g d X.env):JE X (.Call (.Name x p) (e::d) [] g) (fA f h):=by
 obtain⟨ad,n,t,w,P,R,S⟩:=F.ex;refine PE.to (Na w (U.mono c) a P R S .nil VD b M o O) λu H Q q=>?_;obtain⟨B,V,i,y,s,r,e,q⟩:=q;refine eX e λk W e=>?_;exact⟨B,V,k,s,r,W,λv l Z j m=>by
  show M9 _ f _ l Q _;rw[uQ];exact⟨Z,k,i,y,⟨j.nh,r.tb.mono j.bn⟩,m,e,q.into j⟩⟩
def O5 (a:∀y∈d.names,y.2≠.cell:=by decide +kernel)(b:d.kind=.function:=by rfl)(c:∀y∈d.names,y.2=.local->d.names.lookup y.1=some .local:=by decide +kernel)(M:(d.names.all λy=>!(y.2 == NameKind.free) || (X.env.cells.lookup y.1).isSome)=true:=by rfl):CompSc X d (eC d.names X.env.cells []):=RU a b c M
end DL
namespace DL
open PySem PySem.Spec PySem.W PyProof.Rows L2
def sW:At->D
 |.i n=>.int n
 |.s z=>.str z
section
variable {prog:Program}{w:World}{A:Around}{E:QV}{s:Shared}
def WI (hx:B1 x u)(b:B1 y v):SeqAt.EqAt A s u v (gV (sW x) (sW y)):=by
 cases x with
 |i a=>
  obtain⟨t,rfl⟩:=hx;cases y with
  |i c=>obtain⟨k,rfl⟩:=b;exact SeqAt.EqAt.int_int _ _ _ _
  |s c=>obtain⟨k,rfl⟩:=b;exact SeqAt.EqAt.int_str _ _ _ _
 |s a=>
  obtain⟨t,rfl⟩:=hx;cases y with
  |i c=>obtain⟨k,rfl⟩:=b;exact SeqAt.EqAt.str_int _ _ _ _
  |s c=>obtain⟨k,rfl⟩:=b;exact SeqAt.EqAt.str_str _ _ _ _
theorem DN {b k:List At}{r:LU}(h:Paired B1 b r)(j:Paired B1 k r):b=k:=by
 induction h generalizing k with
 |nil=>cases j;rfl
 |@cons x _ _ _ p _ n=>cases j with|@cons y _ _ _ q M=>
  rw[n M];cases x<;>(obtain⟨t,rfl⟩:=p;cases y<;>(obtain⟨o,e⟩:=q;cases e;try rfl))
def Tf x y:gV (sW x) (sW y)=true↔x=y:=by
 cases x<;>cases y<;>simp[sW]
theorem re:∀a b:List At,jB (a.map sW) (b.map sW)=true↔a=b
 |[],[]=>by simp
 |[],_::_=>by simp
 |_::_,[]=>by simp
 |x::a,y::b=>by
  rw[uY,uY,jB,vC,Tf,re a b];simp
def Tg (hx:f7 s.heap v x)(P:f7 s.heap B y)(R:A.units<cLine):SeqAt.EqAt A s x y (jB (v.map sW) (B.map sW)):=by
 refine cX λw g'=>?_;obtain⟨a,o,z,n,rfl,f,S,V,r⟩:=hx;obtain⟨b,W,M,m,rfl,O,U,g,e⟩:=P;apply g';by_cases c:a=b
 .grind[DN,re,SeqAt.EqAt.same]
 .have h:s.heap.IsTuple a z:=⟨o,f,S,n,V⟩;have k:s.heap.IsTuple b M:=⟨W,O,U,m,g⟩;have X:v.length=z.size:=by exact eZ r
  have Z:B.length=M.size:=by exact eZ e
  have C:∀j (G:j<z.size) (H:j<M.size),SeqAt.EqAt A.in1 s z[j] M[j] (gV ((v.map sW).getD j .non) ((B.map sW).getD j .non)):=λj G H=>by
   have p:=fg (.i 0) Value.none r (i:=j) N9;have q:=fg (.i 0) Value.none e (i:=j) N9;have d:z.toList.getD j Value.none=z[j]:=by simp_all
   have F:M.toList.getD j Value.none=M[j]:=by simp_all
   rw[d]at p;rw[F]at q;have l:(v.map sW).getD j .non=sW (v.getD j (.i 0)):=by simp_all
   have t:(B.map sW).getD j .non=sW (B.getD j (.i 0)):=by simp_all
   rw[l,t];exact WI p q
  have K:=SeqAt.RcAt.tuples h k R C;have u:((List.range (min z.size M.size)).all (λj=>gV ((v.map sW).getD j .non) ((B.map sW).getD j .non)) && z.size == M.size)=jB (v.map sW) (B.map sW):=by
   rw[<-X,<-Z];by_cases D:v.length=B.length
   .rw[<-D,Nat.min_self,beq_self_eq_true,Bool.and_true];have:=jC _ (xs:=v.map sW) (ys:=B.map sW) (by simpa using D) λj x y d F=>xM j x y d F;rwa [vI]at this
   .rw[xL (by simpa using D),beq_eq_false_iff_ne.mpr D,Bool.and_false]
  rw[u]at K;exact SeqAt.EqAt.of_refs c K
theorem GS a:aX a a=some false:=by
 induction a with
 |nil=>rfl
 |cons x a M=>cases x<;>rw[aX,if_pos rr,M]
def Kr (hx:f7 s.heap d x)(a:f7 s.heap f y)(h:aX (.i n::d) (.i m::f)=some b)(c:A.units<cLine)(q:Q b s)(k:B1 (.i n) u)(o:B1 (.i m) v):KatLex prog w A true false Q [(u,v),(x,y)] 0 s:=by
 obtain⟨t,rfl⟩:=k;obtain⟨D,rfl⟩:=o;refine kat_cons (wpAny_eqBool_int ?_);rw[aX]at h;by_cases e:n=m
 .rw[if_pos e]at h;rw[show(n == m)=true by simp[e]];refine kat_yes (kat_cons (Tg hx a c _ _ _ _ ?_));by_cases r:d=f
  .grind[re,GS,kat_yes,kat_nil]
  .rw[eq_false_iff.mpr λz=>r ((re d f).mp z)];refine kat_no (kat_one _ _ ?_);exact JZ hx a h c (by first|exact q|exact⟨b,rr,q⟩)
 .rw[if_neg e]at h;cases h
  rw[show(n == m)=false by simp[e]];exact kat_no (oneLt_int q)
end
def GU (h:Heap)(c:List At)(v:Value):Prop:=∃n k a o b m u x,c=.i n::k/\v=.ref a/\h.get? a=some o/\o.cls=.type "tuple"/\o.data=.seq b m/\b.toList=[u,x]/\B1 (.i n) u/\f7 h k x
section
variable {prog:Program}{w:World}{A:Around}{E:QV}{s:Shared}
def O6 (hx:GU s.heap p x)(F:GU s.heap t y)(h:aX p t=some b)(K:A.units<cLine)(q:Q b s):wpAny (model prog w) A (keyLt' (tuples' true) x y) Q E s:=by
 refine cX λv g'=>?_;obtain⟨n,k,a,o,z,m,u,f,rfl,rfl,d,v,P,D,R,e⟩:=hx;obtain⟨g,W,i,X,r,j,Z,l,rfl,rfl,O,v,U,M,c,S⟩:=F;apply g';refine kat_lt d P O U ?_;rw[D,M];have V:decide (z.size<r.size)=false:=by
  rw[<-vG,<-vG,D,M];rfl
 rw[V];exact Kr e S h K q R c
theorem qB {c:List (List At)}{q:LU}(j:Paired (GU h) c q):∃b,KatTups h q b/\b.length=c.length/\∀v∈b,∃n,B1 (.i n) v:=by
 induction j with
 |nil=>exact⟨[],trivial,rr,H9⟩
 |cons x t n=>
  refine cX λy g'=>?_;obtain⟨b,r,z,R⟩:=n;obtain⟨n,k,a,o,D,m,u,O,rfl,rfl,M,F,K,P,S,y⟩:=x;apply g';refine⟨u::b,KatTups.cons M F K (by rw[<-Array.getElem?_toList,P];rfl) r,by simp[z],λv V=>?_⟩;grind
def GV (a:Paired (GU s.heap) d e)(o:0<d.length)(q:Q (tuples' true) s):wpAny (model prog w) A (keyKind' e.toArray) Q E s:=by
 obtain⟨r,b,z,c⟩:=qB a;refine kat_kind (T:=.type "int") b N9 (λv k=>?_) q9 q;obtain⟨n,t,rfl⟩:=c v k;exact .now
def Ks (k:cz d=true)(o:A.units<cLine)(b:Paired (GU s.heap) d f):∀(i j)C a,i<d.length->j<d.length->a=s->(∀c,c=s->C (sA (DA d) i j) c)->kas_ask prog w A (tuples' true) f i j C a:=by
 intro i j C a q r e O;subst e;have M:d.getD i []∈d:=by simp_all
 refine O6 (fg [] _ b q) (fg [] _ b r) (gW k M (by simp_all)) o ?_;have:=O a rr;unfold sA DA at this;rw[zR (uS ⟨_,M,rr⟩)]at this;exact this
end
def Th:D->Option (List At)
 |.tup [.int n,.tup a]=>(mJ a).map (.i n :: ·)
 |_=>none
def m5:LD->Option (List (List At))
 |[]=>some []
 |d::b=>(Th d).bind λa=>(m5 b).map (a :: ·)
theorem wB:∀ {b:LD}{c:List (List At)},m5 b=some c->c.length=b.length
 |[],_,h=>by simp_all[m5]
 |d::b,_,h=>by
  refine eX h λa o h=>eS h λr k h=>?_;subst h;simp[wB k]
set_option tactic.hygienic true in
theorem Ae (I:Inv X g j H s){F:LV}{P:LD}{R:List (List At)}{q:LU}(f:bd F q)(j:IsL X.K H F P)(h:m5 P=some R):Paired (GU s.heap) R q:=by
 induction f generalizing P R with
 |nil=>cases j;cases h;exact .nil
 |cons r _ b=>cases j with|cons i c=>
  refine eX h λa z h=>?_;refine eS h λt W h=>?_;subst h;refine .cons ?_ (b c W);unfold Th at z;split at z
  .rename_i n S;obtain⟨k,O,rfl⟩:=oY z;cases i with
   |tup Z w=>
    cases r
    obtain⟨V,M,⟨o,d,l,m,p⟩,_⟩:=I.tuple Z;cases w with
    |cons u w=>
     cases w with
     |cons v w=>
      cases w
      cases M with
      |cons e M=>
       cases M with
       |cons f M=>
        cases M
        cases u
        have U:=oh I (.cons f .nil) (.cons v .nil) (by show(mJ S).bind _=_;rw[O];rfl);cases U with
        |cons U _=>exact⟨n,k,_,o,_,m,_,_,rr,rr,d,l,p,rr,e,U⟩
  simp_all
def Kt (a:X.A.units+40<cLine):KK X X.A.in1.in1 m5 λz=>true:=⟨wB,λI z z z z r i e z c=>have a:=Ae I r i e;⟨λk z z=>GV a k,Ks c N9 a⟩⟩
@[simp] abbrev Cn:FE->(Env->D->Option D)->FE:=ye m5 λz=>true
end DL
namespace DL
open PySem PySem.Spec PyProof.Rows L2
def WJ:Nat->(LU->Prop)->Prop
 |0,P=>P []
 |n+1,P=>∀a,WJ n λl=>P (a::l)
theorem Ti n:∀P,WJ n P->∀b:LU,b.length=n->P b:=by
 induction n with
 |zero=>intro P h b e;cases b with|nil=>exact h|cons=>cases e
 |succ n i=>intro P h b e;cases b with|nil=>cases e|cons a b=>exact i _ (h a) b (Nat.succ.inj e)
section
variable {P:Program}{w:World}{K:Frag}{mg:SV}{base:Heap}
def KC (K:Frag)(mg:SV)(x:Str)(c:D):Prop:=∃u v,mg x=some u/\aI v u/\∀B,Is K B v c
def KD (w:World)(K:Frag)(mg:SV)(x:Str)(c:List (Str×D)):Prop:=∃d,mg x=some (.ref d)/\nQ K w.params d c
def kc_of{h:Heap}(X:K.In h)(G:h.Ns mainGlobals mg)(k:∃u v,nsIn K mainGlobals x=some (some u)/\aI v u/\∀B,Is K B v c):KC K mg x c:=let ⟨u,v,e,r⟩:=k;⟨u,v,mg_of X G e,r⟩
def kd_of{c:List (Str×D)}{h:Heap}(X:K.In h)(G:h.Ns mainGlobals mg)(k:∃d,nsIn K mainGlobals x=some (some (.ref d))/\nQ K w.params d c):KD w K mg x c:=let ⟨d,e,r⟩:=k;⟨d,mg_of X G e,r⟩
def Dy.fqL {x:Str}{a:Stmt}{k:Nat}{O:LD->OB}(F:Dy K x a)(B:∃h,K.In h/\h.Ns mainGlobals mg)(g:FS)(N:LS)(n:Nat)
  (D:∀ {f:Addr}{o:Value}{A:Around}{b:List PySem.Env}{s:Shared}{H:Hp}{E:XK},N.Nodup->eQ k (A.deeper (envOfC x (aM a) s.z f o))->(A.deeper (envOfC x (aM a) s.z f o)).units+40<cLine->(∀c P,PySem.W.tabIn K x=some (c,P)->o=.ref c)->ze (rQ Bw P w K mg base N x (aM a) f o A b s H E).nox (cr a) g)
  (S:FnScope N (N.take n) (aM a):=by refine⟨rr,rr,rr,?_,rr,?_,?_⟩<;>decide +kernel)
  (M:∀(kV q R:Value)V(o Z:Value)(r:LU),r.length=(N.take n).length->bindArgs (fnOf x x (gR a) (cr a) (aM a) .none kV q R V o Z) ⟨r,[]⟩=pure ((N.take n).zip r):=by
   exact λy y y y y y=>Ti _ _ (by(repeat intro);rfl))
  (e:a0 g (N.take n).length (N.length - (N.take n).length)=O:=by rfl):
  Fn P w K mg base (k+1) x O:=let ⟨_,X,G⟩:=B;e ▸ F.fnL X G S M λy y y y y y y d U=>D S.nd U (kx U) d
end
section
variable {X:Cx}{x:Str}{pos:Pos}
def WK a(b:JI X h i l)(c:∀ {C s H e},JC (jc X a d (eC d.names X.env.cells []) C s H e) m n)(k:∀ {C s H e},JE (jc X a d (eC d.names X.env.cells []) C s H e) p t)
  (O:N6 X.K j u g) (U:∀ {C s H e},PG (jc X a d (eC d.names X.env.cells []) C s H e) h g)
  (o:n8 X a d (eC d.names X.env.cells []) j f)
  (S:CompSc X d (eC d.names X.env.cells [])) (M:X.calm=true)
  (q:∀x,foldedSetIterable i X.env x=pure x):
  JE X (.ListComp p [⟨h,i,m,0⟩] d pos) (gB l j f u n t):=N7 M S o b (λz z z z=>U) O (λz z z z=>c) (λz z z z=>k) q
def WL (k:LS)(a:X.N.Nodup)(o:JI X h j t)(q:∀ {C s H e},JC (jc X k d (eC d.names X.env.cells []) C s H e) m u)(r:∀ {C s H e},JE (jc X k d (eC d.names X.env.cells []) C s H e) n v)
  (O:N6 X.K p A g) (b:∀ {C s H e},PG (jc X k d (eC d.names X.env.cells []) C s H e) h g)
  (w:n8 X k d (eC d.names X.env.cells []) p l)
  (U:X.N[i]? = some y) (z:X.env.kindOf y=some .local)
  (c:swapsWith (.ListComp n [⟨h,j,m,0⟩] d pos) (some (.Name y B)) f.line X.env=pure true)
  (S:CompSc X d (eC d.names X.env.cells [])) (M:X.calm=true)
  (D:∀x,foldedSetIterable j X.env x=pure x):
  JS X (.Assign [.Name y B] (.ListComp n [⟨h,j,m,0⟩] d pos) f) (dq i (gB t p l A u v)):=NA M a U z c S w o (λZ Z Z Z=>b) O (λZ Z Z Z=>q) (λZ Z Z Z=>r) D
def WM (a:JI X d e f)(M:PG X d t)(O:M8 X.K h t)(b:ze X U g)(c:PassesOwn (model X.prog X.w) X.A X.env X.xe)(k:X.calm=true)
  (o:∀x,foldedSetIterable e X.env x=pure x):JS X (.For d e U [] pos) (zc f h g):=PS.to (Ip c k a M b o) λz z z=>Ny O
def WN (a:PI X d e (VN X.K f))(M:PG X d t)(O:M8 X.K h t)(b:ze X U g)(c:PassesOwn (model X.prog X.w) X.A X.env X.xe)(k:X.calm=true)
  (o:∀x,foldedSetIterable e X.env x=pure x):JS X (.For d e U [] pos) (rZ f h g):=PS.to (Ip c k a M b o) λz z z=>IX O
end
end DL
namespace DL
open PySem PySem.Spec PySem.W PyProof.Rows L2
def sX:entryFor table "dict_itemiterator.__iter__" = some Builtin.«dict_keyiterator.__iter__»:=entryFor_alias (id':="dict_keyiterator.__iter__") x8 rr s9 x8
noncomputable def ItI (a:Addr)(b:List (dH×V))(c:Obj):It:=⟨λi H=>H a=some (.dK b c)/\i<b.length,λi H y o=>∃T k v,y=.ref T/\H T=none/\o=upd H T (.tup [kV k,v])/\b[i]? = some (k,v),λi H=>H a=some (.dK b c)/\b.length<=i⟩
def Co {P:Program}{w:World}{K:Frag}{es:QD}{v:Nat}{pt:Pos}(a W:Addr)(F:List (dH×V))(ob:Obj){ds:Array DictEntry}{n:Nat}(hd:ob.data=.dict ds n):Turn P w K (.Tuple es v pt) (ItI a F ob) [W] W (λi h=>∃G M,IsItemIter h W a i F.length n G M) where
 mem:=C_
 obj:=λi h R b S=>by
  grind
 keep:=λi h N R k=>let ⟨G,M,e⟩:=R;⟨G,M,k W C_ _ e⟩
 item:=by
  intro X c Q d hc i ag s σ H E I J R f;subst c Q d;refine cX λB g'=>?_;obtain⟨G,M,Z⟩:=R;obtain⟨g,O⟩:=f;obtain⟨vs,r,m⟩:=m4 I.hok g hd;have L:=(Paired.length r).symm;obtain⟨u,hu,ru⟩:=r.get (k:=F[i].1) (x:=F[i].2) (vU O);apply g';have fresh:=I.hok.fresh (vT _);have j:=vS (vX Z);refine wpAny_pyNext_items_item (by rw[L];exact Z) m hu λl N U p y hsz T=>?_;rw[L]at p;refine⟨_,rr,wpAny_letOwnedTupleGo_items p λY A s2=>?_⟩;have t:Heap.SameBut W N Y:=s2;have new:bA X.prog X.w (upd H s.z (.tup [kV F[i].1,F[i].2])) Y s.z (.tup _):=⟨by show 2<=sizeLine;decide,[l,u],.cons (QA U) (.cons ru .nil),⟨_,t.extBut _ _ j.symm y,rr,_,rr⟩⟩;refine⟨.ref s.z,upd H s.z _,D1 (s:=s) (t':=s.toks) I J (λb o S q=>t.extBut _ _ (λz=>S (by simp[z])) (T b o (λz=>S (by simp[z])) q)) (vT _) new,rr,⟨_,F[i].1,F[i].2,rr,fresh,rr,vU O⟩,⟨_,_,A⟩,λb S=>?_⟩;have C:b≠s.z:=by
   simp_all
  rw[a8 C];exact(J b S).1
 done:=by
  intro X c Q d hc i ag s σ H E I J R f;subst c Q d;refine cX λB g'=>?_;obtain⟨G,M,Z⟩:=R;obtain⟨g,D⟩:=f;obtain⟨vs,r,m⟩:=m4 I.hok g hd;apply g';have L:=(Paired.length r).symm;exact wpAny_pyNext_items_end (I.ok.hd hc) (by rw[L];exact Z) m (getElem?_eq_none N9) λN T=>⟨rr,lI (t':=s.toks) I J λb o S q=>T b o (λz=>S (by simp[z])) q⟩
 self:=λB B B B B R h=>let ⟨_,_,Z⟩:=R;by
  refine wpAny_pyIter_slot ⟨_,Z,rr⟩ PySem.F.slot_dict_itemiterator_iter (wpAny_call_entry PySem.F.slot_dict_itemiterator_iter ⟨_,Z,rr⟩ sX ?_ (PySem.F.args_dict_itemiterator_iter_1 _));exact wY ⟨_,rr,"dict_itemiterator",_,⟨_,Z,rr⟩,PySem.F.slot_dict_itemiterator_next.lookup,h⟩
section
variable {X:Cx}{es:QD}{kt:Nat}{pt:Pos}{e:Expr}
def aaS (O:TE):TI:=λk H R=>O k H λx M=>∃a b c,x=.ref a/\M a=some (.dK b c)/\R (ItI a b c) M
def Ku {o:Expr}{f:TE}{z D:Pos}(j:PE X o f)(M:attributeBase o "items" X.env (eval o X.env)=eval o X.env:=by rfl)(O:(z.endLine == D.line)=true:=by rfl):PI X (.Tuple es kt pt) (.Call (.Attribute o "items" z) [] [] D) (aaS f):=by
 intro Z s K H R I h;refine wpAny_Call_method0_late M O (bY (j _ s K H _ I h) λv w ⟨x,g,U,i,a,P,S,l,c,q⟩=>?_);subst l;obtain⟨V,n⟩:=BK U i (.inr (.inr (.inl ⟨rr,.inl ⟨P,S,c⟩⟩)));cases i
 obtain⟨es,k,W⟩:=rd U.hok c;obtain⟨p,r,m⟩:=m4 U.hok c W;have t:=(Paired.length r).symm;refine⟨"dict","dict.items",plainAttrs_dict,PySem.F.slot_dict_items,PySem.F.type_dict_items,V,n,Calls.callWith_builtin rr (PySem.evalArgs_none ?_)⟩;refine call_meetsIn PySem.F.slot_dict_items V PySem.F.entry_dict_items (PySem.F.args_dict_items_1 _) (meets_dict_items _ a (qq U.hok c).2.1) ⟨⟨p,m.dictOf⟩,?_⟩;have d:Inv X Z K g { w with heap:=w.heap.push { cls:=.type "dict_items",data:=.fields #[.ref a] } }:=U.kept λb o e=>vZ _ e;refine wpAny_pyIter_items ⟨_,vY _ rr,rr,rr⟩ (m.keep λb o e=>vZ _ e) ?_;rw[t];refine⟨(w.heap.push _).objs.size,[(w.heap.push _).objs.size],_,_,g,rr,d.kept λb o e=>vZ _ e,Co a _ P S W,⟨_,_,vY _ rr⟩,λb u=>?_,q⟩;have e:b=(w.heap.push { cls:=.type "dict_items",data:=.fields #[.ref a] }).objs.size:=by simpa using u
 subst e;exact d.fpOk (vT _) (d.hok.fresh (vT _))
noncomputable def mL (a:LK)(b:LD):LD:=(a.zip b).map λx=>.tup [kD x.1,x.2]
def Kv {K:Frag}{B:Hp}{a:Addr}{r:LK}{q:LV}{z:LD}{D:Obj}(h:B a=some (.dK (r.zip q) D))(n:r.length=q.length)(F:IsL K B q z):mD K (ItI a (r.zip q) D) B (mL r z):=by
 intro i H s;have S:(r.zip q).length=q.length:=by rw[length_zip];lia
 have p:=F.length;refine⟨λd w=>?_,λO=>⟨s _ _ h,by simp_all[mL]⟩⟩;unfold mL at w;rw[vA]at w;refine cX λx g'=>?_;obtain⟨⟨V,t⟩,W,rfl⟩:=oY w;obtain⟨c,Z⟩:=getElem?_zip_eq_some.mp W;obtain⟨v,P,l⟩:=F.get Z;apply g';have M:=(vV P).1;refine⟨⟨s _ _ h,by rw[S];exact M⟩,λy j m=>?_⟩;obtain⟨T,k,f,rfl,g,rfl,e⟩:=m;obtain⟨R,U⟩:=getElem?_zip_eq_some.mp e;rw[c]at R;cases R;rw[P]at U;cases U;have b:=Ext.laid (o:=.tup [kV V,f]) s g;exact⟨_,b,.tup (iH.of av) (.cons (QB _) (.cons (l.mono b.bn) .nil))⟩
@[simp] def DO (f:FE):FA:=λa=>(f a).bind λx=>match x.1 with|.dk b c=>some (mL b c)|_=>none
def Kw (h:JE X e f)(M:attributeBase e "items" X.env (eval e X.env)=eval e X.env)(O:(i.endLine == j.line)=true):JI X (.Tuple es kt pt) (.Call (.Attribute e "items" i) [] [] j) (DO f):=by
 intro Z s o H R I q;refine cX λy g'=>?_;obtain⟨B,w,z,b,r,c,q⟩:=q;obtain⟨⟨D,g⟩,F,es⟩:=oX c;apply g';cases D<;>try (cases es;done)
 cases es
 refine Ku h M O _ s o H R I ⟨B,w,_,_,b,r,F,λv d K U P y=>?_⟩;cases P with
 |@dk a l m z S k V W=>exact⟨a,_,S,rr,U.nh _ _ k,q _ d K U (Kv k V W)⟩
end
section
variable {K:Frag}{E:Ends}{σ:St}{H:Hp}
def sY (i:Nat)(O U:FE):FS:=λa=>match a[i]? with
 |some (some (.dk b c,true))=>(U (iI a)).bind λv=>(O a).bind λk=>(kP k.1).bind λM=>if b.length<sizeLine then some (.nx (a.set i (some (.dk (cK b M) (cA b c M v.1),true))))else none
 |_=>none
set_option tactic.hygienic true in
def GW (q:nH K (sY i n t) E σ H):Dj (Ie i) (tD K n) (tD K t) E σ H:=by
 obtain⟨C,G,P,r,⟨N,s⟩,e,p⟩:=q;unfold sY at e;split at e
 .rename_i S V z;refine eX e λv W e=>?_;refine eX e λk X e=>?_;refine eX e λU Z e=>?_;split at e
  .cases e
   refine⟨dZ N _,iI P,v.1,v.2,bN.trans s.ext.nh,s.repH,W,λg h I b u _=>?_⟩;obtain⟨w,c⟩:=s.growH b;obtain⟨a,o,D,J,L,Q⟩:=w.ow i _ z;refine⟨.ref a,D,_,P,k.1,k.2,w.ext.nh,w.rep,X,λj T Y M x _=>?_⟩;have F:=w.grow M;have y:=oj x Z;subst y;obtain⟨l,o',O,A,m,d⟩:=F.ow i _ z;rw[D]at O;cases O
   cases d with
   |@dk S vs V R B ob=>
    refine⟨a,rr,.inl ⟨_,U,_,F.ext.nh _ _ A,rr,?_,λf=>?_⟩⟩
    .rw[length_zip];grind
    .rw[rb R];exact p σ _ ⟨_,F.writeB z D (.dk (oq R _ _) (B.put ((u.mono c).mono (eB λa o e q=>⟨M.bn a o e,q⟩))))⟩
  .cases e
 simp_all
end
section
variable {X:Cx}{pos:Pos}{e k:Expr}
def Kx (a:X.A.units+1<cLine)(b:JE X e d)(c:JE X k f)(U:X.N[i]? = some y)(M:M6 X.env.scope y)(o:bB y)
  (O:mo y) (r:swapsWith e (some (.Subscript (.Name y g) k pt)) pos.line X.env=pure false):JS X (.Assign [.Subscript (.Name y g) k pt] e pos) (sY i f d):=
 PS.to (xG a (k8 U M o O) c b r) λz z z=>GW
end
section
variable {prog:Program}{w:World}{A:Around}{E:QV}{s:Shared}
theorem DP:∀(a:LU)(b:LI),a.length=b.length->(∀(i:Nat)v,a[i]? = some v->∃(m:Int)(t:Tok),b[i]? = some m/\v=Value.int m t)->IntsAre a b
 |[],[],_,_=>.nil
 |v::a,n::b,h,k=>by
  obtain⟨m,t,e,rfl⟩:=k 0 v rr;cases (show some n=some m from e)
  exact .cons n t (DP a b (by simpa using h) λi v=>k (i+1) v)
def Af (S:A.handled=none)(V:(a == sysModules)=false)(W:s.heap.DictAt (cO prog w) a G H)(P:G.map (·.1)=C.map .inl)(j:C.length<64)
  (l:∀(F K:Heap)(R:Nat)(b:Addr)(D:AV)(n:Nat)(M:LI),(∀c u,s.heap.get? c=some u->F.get? c=some u)->(∀c u,F.get? c=some u->K.get? c=some u)->F.objs.size<=b->K.get? b=some (seqObj "list" D n) ->
   IntsAre D.toList M->M.Perm C->M.Pairwise (·<=·)->Q (.ref b) { s with heap:=K,toks:=R }):
  wpAny (model prog w) A (call (.builtin "sorted") [.ref a]) Q E s:=by
 refine Calls.call_function_entry kind_sorted plain_sorted entry_sorted (args_sorted1 _) ?_;refine wX (wY ?_);have e:=by have:=congrArg List.length P;simpa using this
 refine wX (kdu_collect (A:=A.in1) (kdl_dict V) (by exact S) W (by rw[sizeLine_eq];lia) λF R U d O=>?_);have f:U.toList.length=C.length:=by rw[vG,O.1,e]
 have o:=DP U.toList C f λi v X=>by
  obtain⟨k,x,p,Z⟩:=O.2 i v (by simpa using X);have h:(G.map (·.1))[i]? = some k:=by rw[vA,p];rfl
  rw[P,vA]at h;obtain⟨m,r,rfl⟩:=oY h;obtain⟨t,rfl⟩:=Value.isInt_shape (k:=m) (v:=v) Z;exact⟨m,t,r,rr⟩
 refine wX (wpAny_newList ?_ (by rw[f,sizeLine_eq];lia));refine wX (wpAny_holding (wpAny_call_entry slot_list_sort ⟨_,(vY _ rr),rr⟩ entry_list_sort (list_sort_tree (vY _ rr) o (by rw[f];exact j) λD M y z B=>⟨_,rr,?_⟩) (args_list_sort _)));obtain⟨n,I⟩:=sortedHeap_at (out:=D) (vY _ rr);refine wY ⟨_,rr,l F _ _ _ D n M d (λb u q=>?_) (vT _) I y z B⟩;have J:=vX q;rw[sortedHeap_old (vS J) (by simp_all[lt_succ_of_lt])];exact vZ _ q
end
noncomputable def wD:LK->Option LI
 |[]=>some []
 |.inl n::a=>(wD a).map (n :: ·)
 |.inr _::_=>none
theorem Ag:∀ {a:LK}{b:LI},wD a=some b->a=b.map .inl
 |[],_,h=>by cases h;rfl
 |.inl n::a,_,h=>by
  obtain⟨r,c,rfl⟩:=oY h;rw[Ag c];rfl
 |.inr _::_,_,h=>by cases h
def O8 {a:List (dH×V)}(r:KV a b):b.map (·.1)=a.map (·.1):=by
 induction r with
 |nil=>rfl
 |cons h t M=>simp_all
@[simp] def Ky:LD->OB
 |[.dk b _]=>(wD b).bind λa=>if a.length<64 then some (.lst ((qz a).map .int),true)else none
 |_=>none
section
variable {X:Cx}
def GX (S:X.calm=true):bH X (.builtin "sorted") (yM X.K Ky):=by
 intro ag s W H xs us Q I r h;obtain⟨B,dl,d,bb,j,i,O,q⟩:=h;cases i with
 |nil=>simp at O
 |cons Z E=>
  cases E with
  |cons _ _=>simp_all
  |nil=>
   cases Z with
   |@dk a ks vs ds ob G hl hs=>
    obtain⟨u,rfl,l⟩:=gA r;cases l
    refine eX O λD J O=>?_;split at O
    .rename_i U;cases O
     have c:=j _ _ G;obtain⟨es,C,f⟩:=rd I.hok c;obtain⟨p,t,m⟩:=m4 I.hok c f;refine Af (I.ok.hd S) (qq I.hok c).2.1 m (by rw[O8 t,List.map_fst_zip N9,Ag J]) U λL N T b F n v x Y P he y M z=>?_;have e:=zX M z;subst e;have k:Inv X _ W H { s with heap:=L,toks:=T }:=wu I x rr rr;have R:=k.hok.fresh P;have A:=Ext.laid (o:=.lst ((qz D).map V.int)) j R;exact⟨.ref b,_,k.laid Y P (show bA _ X.w _ N _ (.lst _)from ⟨by rw[vI];unfold qz;rw[(aA _ D).length_eq,sizeLine_eq];lia,F.toList,n,gU y,he⟩),rr,q _ _ _ A (.lst (fW.of av) (oi _)) λ_=>⟨_,_,_,rr,rr,R,av,oi _⟩⟩
    simp_all
   |_=>simp at O
def Tj (z:X.A.units+1<cLine)(D:JE X i m)(b:JE X o n)(F:behindInMarks .In o=false):JE X (.Compare i [.In] [o] p) (f2 UH m n):=by
 refine PE.to (λq s k H Q I a=>wpAny_Compare1 ((IG z D b) _ s k H Q I a) F) λt H Q q=>?_;obtain⟨B,w,d,u,c,r,M,q⟩:=q;refine eX M λy e M=>?_;refine eX M λx K M=>?_;refine⟨B,w,y.1,y.2,c,r,e,λf g P O R Y=>⟨P,w,x.1,x.2,O.nh,r.mono O.bn,K,λv C E U S j=>?_⟩⟩;obtain⟨G,l⟩:=x;cases S with
 |@dk a I J L N h V W=>
  refine eS M λk Z M=>?_;cases M
  have s:=oj R Z;subst s;refine⟨a,jA _ k,rr,.inl ⟨_,k,_,.inl (U.nh _ _ h),rr,rr⟩,?_⟩;rw[pK V W];exact(q.into (O.trans U)).one U.nh (.bl _)
 |_=>simp at M
end
end DL
namespace DL
open PySem PySem.Spec PyProof.Rows L2
@[simp] abbrev fV (i:Nat)(g:FA):FA:=ao (ak i) g
@[simp] abbrev fI (n:Int):FE:=fC (.int n)
@[simp] abbrev fS (s:PySem.Str):FE:=fC (.str s)
@[simp] def Kz (f g:FE):FE:=λa=>(f a).bind λx=>(g a).bind λy=>match y with
 | (.lst b,true)=>if bi x.1=true then some (.tup [x.1,.lst b],true)else none
 |_=>none
set_option tactic.hygienic true in
def O9 {X:Cx}{e U:Expr}{b}(F:JE X e f)(l:JE X U g)(P:starEach [e,U] X.env=(false,eval e X.env)::starEach [U] X.env)(m:starEach [U] X.env=(false,eval U X.env)::starEach [] X.env):JE X (.Tuple [e,U] b C) (Kz f g):=by
 refine PE.to (rP (dI F (dI l gJ m) P)) λL H Q q=>?_;obtain⟨B,D,N,T,n,r,M,q⟩:=q;refine eX M λx R M=>?_;refine eX M λy p M=>?_;split at M
 .rename_i S;split at M
  .rename_i hx;cases M
   refine⟨B,D,x.1,x.2,n,r,R,λv u V b W _=>⟨V,D,_,_,b.nh,r.mono b.bn,p,λw Y Z d i2 f2=>⟨(by decide:2<=sizeLine),λt s=>?_⟩⟩⟩;obtain⟨a,E,A,rfl,z,G,I,J⟩:=f2 rr;cases z
   have c:=Ext.laid (o:=HO.tup [v,.ref a]) d.nh s;have h:=J.mono c.bn;have i:=c.bn _ _ I;have k:IsL X.K _ [v,.ref a] [x.1,.lst S]:=.cons (W.mono (d.bn.trans c.bn)) (.cons (.lst (fW.of i) h) .nil);refine q _ _ _ (b.trans (d.trans c)) (.tup (iH.of av) k) λ_=>⟨t,_,rr,iH.of av,k,λj es O=>?_⟩;match j,O with
   |0,O=>simp at O;rw[O]at hx;simp at hx
   |1,O=>simp at O;subst O;exact⟨a,E,rr,b.hh.free G,i,h⟩
  simp_all
 simp_all
end DL
namespace L2
open PySem PySem.Spec PyProof.Rows
noncomputable def Itv (K:Frag)(a:Addr)(b:List V):It:=⟨λi H=>fW K H a b/\i<b.length,λi H v c=>c=H/\b[b.length - 1 - i]? = some v,λi H=>fW K H a b/\b.length<=i⟩
def K0 {P:Program}{w:World}{K:Frag}{B:Expr}(a F:Addr)(D:List V):Turn P w K B (Itv K a D) [F] F (λi h=>i<=D.length/\h.IsRevIter F a ((D.length:Int) - 1 - (i:Int))) where
 mem:=H9
 obj:=λi h z b R=>by
  obtain⟨Y,o,e,c,d⟩:=z;simp_all
 keep:=λi h Z z k=>⟨z.1,z.2.at λo e=>k F H9 o e⟩
 item:=by
  intro X j v l y i C s G H E I W z M;subst j v l;obtain⟨A,Q⟩:=M;obtain⟨x,hx⟩:∃x,D[D.length - 1 - i]? = some x:=⟨_,vU N9⟩;refine I.lisE A λJ m p T=>?_;obtain⟨u,L,N⟩:=m.get hx;obtain⟨O,f1,f2,U,f,g⟩:=W F H9;have S:=z.2;rw[show(D.length:Int) - 1 - (i:Int)=((D.length - 1 - i:Nat):Int) by grind]at S;refine wpAny_pyNext_rev_item S p.isList (by simpa using L) λZ n q=>?_;have r:=I.turned (t':=s.toks) (λb o R e=>(q.2 b R).trans e) O f1 U f g;obtain⟨o,e,c,d⟩:=id n;refine⟨u,rr,qj e c d q9 ⟨x,H,r,N,⟨rr,hx⟩,⟨N9,?_⟩,λb R=>(W b R).1⟩⟩;grind
 done:=by
  intro X j v l y i C s G H E I W z M;obtain⟨A,hx⟩:=M;obtain⟨O,f1,f2,U,f,g⟩:=W F H9;have S:=z.2;rw[show(D.length:Int) - 1 - (i:Int) = -1 by lia]at S;exact wpAny_pyNext_rev_end (I.ok.hd y) S λZ t=>⟨rr,I.turned (λb o R e=>t b o R e) O f1 U f g⟩
 self:=λY Y Y Y Y z h=>wpAny_pyIter_revIter z.2 h
end L2
namespace DL
open PySem PySem.Spec PyProof.Rows L2
@[simp] noncomputable def Tk (a:FE):FA:=λb=>(a b).bind λx=>match x.1 with
 |.lst c=>some c.reverse
 |_=>none
def Tl {K:Frag}{N:Hp}{l:Addr}{a:LV}{b:LD}(k:fW K N l a)(o:IsL K N a b):mD K (Itv K l a) N b.reverse:=by
 intro i F M;have P:=o.length;refine⟨λd c=>?_,λR=>⟨M.seq k,by simp_all⟩⟩;have q:=by have:=(vV c).1;rwa [List.length_reverse]at this
 rw[List.getElem?_reverse q]at c;obtain⟨v,w,z⟩:=o.get c;refine⟨⟨M.seq k,N9⟩,λr S D=>?_⟩;obtain⟨rfl,e⟩:=D;rw[show a.length - 1 - i=b.length - 1 - i by simp_all,w]at e;cases e
 exact⟨N,.refl M,z⟩
section
variable {X:Cx}{a e:Expr}{pos p:Pos}
set_option tactic.hygienic true in
def Tn {W:FE}(A:X.mg "reversed" = none)(C:JE X a W)(g:Gl X "reversed")(Z:d4 a X.env):
  JI X y (.Call (.Name "reversed" p) [a] [] pos) (Tk W):=by
 intro E s G H R I q;refine Call_ (jb I g A (s9:bootBuiltins "reversed" = some (.type "reversed")) (PyProof.Rows.callWith_type1 (bY (iJ C p8 Z pos E s G H (λF M=>∃(l:Addr)(P:LV),F=[.ref l]/\fW X.K M l P/\R (Itv X.K l P) M) I ?_) λP z ⟨F,M,O,i,j⟩=>?_) Z rr))
 .refine cX λ_ g'=>?_;obtain⟨B,J,ds,k,r,U,q⟩:=q;obtain⟨⟨L,v⟩,N,U⟩:=oX U;apply g';cases L<;>try (cases U;done)
  rename_i c;cases U
  refine⟨B,J,[.lst c],k,r,by simp[ao,aw,N],λF M Q d T=>?_⟩;cases T with
  |cons m n=>
   cases n
   cases m
   rename_i l D h Y;exact⟨l,D,rr,d.nh.seq h,q _ M Q d (Tl h Y)⟩
 .obtain⟨l,D,rfl,h1,q⟩:=j;obtain⟨w,rfl,t⟩:=i.one;cases t
  refine O.lisE h1 λS f u x=>?_;refine call_reversed_list u.isList ?_;have V:Heap.IsRevIter (z.heap.push (revObj l _)) z.heap.objs.size l ((S.toArray.size:Int) - 1):=⟨_,vY _ rr,rr,rr⟩;refine wpAny_pyIter_revIter V ⟨z.heap.objs.size,[z.heap.objs.size],_,_,M,rr,O.kept (t':=z.toks) λb o e=>vZ _ e,K0 l _ D,⟨uN _,?_⟩,λb hb=>?_,q⟩
  .rw[vH,<-f.length]at V;rw[show(D.length:Int) - 1 - ((0:Nat):Int)=(D.length:Int) - 1 by simp];rw[vH,<-f.length];exact V
  .have e:=by simpa using hb
   subst e;exact O.fpOk (vT _) (O.hok.fresh (vT _))
end
structure FnD (P:Program)(w:World)(K:Frag)(mg:Str->Option Value)(base:Heap)(k:Nat)(x:Str)(f:List D->OB):Prop where
 ex:∃(ad:Addr)(fd:FuncData)(ps:List Str),u7 P w K mg base Bw k ad fd ps (M9 K f)/\mg x=some (.ref ad)/\PySem.W.keepIn K (.ref ad)=true/\qk K fd ps []/\qk K fd ps [.none]
end DL
namespace DL
open PySem PySem.Spec PySem.W PyProof.Rows L2
def To (a:LI):Prop:=∀i∈a,Builtin.Int.intBits i<=1048576
abbrev WO:D->D->OB:=By (λi j=>decide (Builtin.Int.intBits i<=2097152/\Builtin.Int.intBits j<=2097152)) λi j=>.int (i*j)
def Tp:dj X (binaryOp .Mult) (rD X.K WO):=nL (Vw λz z z z z z z a q=>mul_int q (IntMulOk.of_le a.1 a.2 I9)) (λz z=>HN) λz z z=>.int _
def walkB {l:PySem.W.OpenLaw}{q:Program}{O:LS}{I:SV->Heap->Prop}{D:World->Heap->Prop}{d:DefRec}{K:Params->Frag}{k:Nat}{x:Str}{f:LD->OB}{L:List (Str×Option (Addr×Addr))}(hn:l.most=some 63)(J:d.params.defaults=[])(Q:eQ k callerA)
  (R:∀(w:World)(h:Heap),D w h->(K w.params).In h) (n:∀w:World,rM (K w.params) L) (S:(L.all λp=>p.2.isNone || ((recsOf q).find? λe=>e.name == p.1).isSome)=true)
  (F:∀(w:World)(mg:SV)(fa:Addr)(h:Heap),(K w.params).In h->h.Ns mainGlobals mg->mg d.name=some (.ref fa) ->
   ∃fd:FuncData,(∀(s:Shared)(u:Value),BindsTo s fd ⟨[u],[]⟩ [(x,u)])/\∀base:Heap,(K w.params).In base->base.Ns mainGlobals mg->u7 l.prog w (K w.params) mg base Bw k fa fd [x] (M9 (K w.params) f))
  (V:∀ns:LI,ns.length<=63->To ns->∃b,f [.lst (ns.map .int)]=some (.bl true,b)):PySem.W.WalkO q O I D l.row.toRowW d [] (λf vs=>PySem.call f vs):=by
 intro w s₀ E mg mb G Y fa o pm cd doc dV kV ho hd HP X t Z args vals as i j hrd y hlo;refine cX λ_ g'=>?_;obtain⟨a,vs,ns,rfl,rfl,z,U,M⟩:=Att.Gj hn i y;have A:=R w _ Y;obtain⟨fd,hb,hF⟩:=F w mg fa _ A G.T.g t;apply g';refine enter_call (codeAny_mono (Gy (xP L) (λb u e=>?_) (n w).none A G.T.g G.T.b G.T.builtins G.T.nolimit G.T.bmain Z z U (vR M I9) Q hF hb λH hH hS=>?_) λr s' hq=>?_)
 .obtain⟨p,hp,e2⟩:=mem_filterMap.mp (kK e);obtain⟨⟨c,P⟩,e3,e4⟩:=oY e2;cases e4
  have m:=all_eq_true.mp S p hp;rw[e3]at m;obtain⟨r,B⟩:=uU m;have C:PySem.W.tabIn (K w.params) p.1=some (c,P):=by
   rw[(n w).names]at hp;simp_all<;>lia
  obtain⟨h1,h2⟩:=PySem.W.tab_of G.T A B C;exact⟨h2,(h1.tab h2).isCodeTable⟩
 .obtain⟨b,e⟩:=V ns M (λi b=>by
  have k:=layableW_item (layableW_arg j _ (mem_singleton.mpr rr)) _ (uS ⟨i,b,rr⟩);simp_all[WData.layable,WData.weight,Builtin.Int.intBits]);exact⟨H,_,_,b,⟨.refl H,(n w).tb hH⟩,.cons (.lst hS (.flat rr)) .nil,e,λv H' N x' i' _=>by cases i';rfl⟩
 .obtain⟨rfl,h2,h3,h4⟩:=hq;exact⟨.inl ⟨.bool _,.bool _,[],rr,λ_=>rr,.bool _,postW_of  
   (by rfl)
   (show(WTm.eq _ _).value [] _=some (.bool _)from w_eq_bool (w_res rr) w_lit) rr,λ_=>⟨List.Pairwise.nil,λ_ hm=>(nomatch hm)⟩⟩,h2,h3,h4⟩
structure OneK (α:Type)[DecidableEq α] where
 v:α->V
 ev:Value->α->Bool
 as:List D->Option (List α)
 rel:∀ {a:α}{u:Value},aI (v a) u->∀b,ev u b=decide (a=b)
 eq:∀ {A:Around}{s:Shared}{a b:α}{u u':Value},aI (v a) u->aI (v b) u'->PySem.SeqAt.EqAt A s u u' (ev u b)
 is:∀ {K:Frag}{B:Hp}{ws:List V}{ds:List D}{l:List α},IsL K B ws ds->as ds=some l->ws=l.map v
noncomputable def evI:Value->Int->Bool
 |.int a _,b=>decide (a=b)
 |_,_=>false
noncomputable def evS:Value->Str->Bool
 |.str a _,b=>decide (a=b)
 |_,_=>false
theorem K1 {K:Frag}{a:LV}{b:LD}{l:LS}(h:IsL K B a b):fU b=some l->a=l.map V.str:=by
 induction h using IsL.ind generalizing l with
 |n=>intro e;cases e;rfl
 |s i _ n=>
  intro e;refine eX e λz O e=>?_;obtain⟨r,c,rfl⟩:=oY e;rw[n c];cases i<;>try (cases O;done)
  simp_all
def WP:OneK Int:=⟨V.int,evI,iN,λ{a u} ⟨t,e⟩ b=>by subst e;rfl,λ{A s a b u u'} ⟨t,e⟩ ⟨c,M⟩=>by subst e;subst M;exact PySem.SeqAt.EqAt.int_int a t b c,JN⟩
def okS:OneK Str:=⟨V.str,evS,fU,λ{a u} ⟨t,e⟩ b=>by subst e;rfl,λ{A s a b u u'} ⟨t,e⟩ ⟨c,M⟩=>by
 subst e;subst M;have:=PySem.SeqAt.EqAt.str_str (A:=A) (s:=s) a t b c;rw[show(a == b)=decide (a=b)from rr]at this;exact this,K1⟩
section
variable {X:Cx}{α:Type}[DecidableEq α] (k:OneK α)
noncomputable def pM (l:List α)(b:α):Nat:=l.findIdx λa=>decide (a=b)
def aaV (K:Frag):V->LV->Hp->VK->Prop:=λx c H Q=>∃(l:Addr)(a:List α)(b:α),x=.ref l/\c=[k.v b]/\fW K H l (a.map k.v)/\pM a b<a.length/\Q (.int (pM a b:Nat)) H
theorem OA(r:bd b a):∀(i:Nat)h,∃v,b[i]? = some v/\aI v a[i]:=by
 induction r with
 |nil=>intro i h;cases h
 |cons M U O=>
  intro i h;cases i with
  |zero=>exact⟨_,rr,M⟩
  |succ i=>exact O i _
@[simp] def Cr:D->D->OB
 |.lst a,y=>(k.as a).bind λl=>(k.as [y]).bind λc=>match c with
  |[b]=>if pM l b<l.length then some (.int (pM l b:Nat),false)else none
  |_=>none
 |_,_=>none
variable {a e:Expr}
set_option tactic.hygienic true in
theorem K2 {D z:Pos}{K f:FE}(S:JE X a K)(V:JE X e f)(O:attributeBase a "index" X.env (eval a X.env)=eval a X.env)
  (m:qi z e X.env)
  (U:(D.endLine == z.line)=true) (P:d4 e X.env):JE X (.Call (.Attribute a "index" D) [e] [] z) (f2 (Cr k) K f):=by
 refine PE.to (yV plainAttrs_list PySem.F.slot_list_index PySem.F.type_list_index ((by
  intro E s G H x J v L Q I c d h;obtain⟨l,P,b,rfl,rfl,f,W,q⟩:=h;cases c
  refine cX λ_ g'=>?_;obtain⟨u,rfl,Z⟩:=d.one;obtain⟨D,r,⟨o,m,e,n,U,p⟩,z⟩:=I.list f;apply g';have t:=r.length;rw[vI]at t z;have R:∀(i:Nat)(S:i<D.length),∃M:i<P.length,aI (k.v P[i]) D[i]:=λi S=>by
   obtain⟨v,a,A⟩:=OA r i S;have M:i<P.length:=N9
   rw[vA,vU M]at a;cases a
   exact⟨M,A⟩
  obtain⟨N,T,g,B⟩:=o;subst n U p;have Y:sizeLine<2 ^ 63 - 1:=I9
  have V:pM P b<D.length:=N9
  refine call_meets PySem.F.slot_list_index ⟨_,e,rr⟩ PySem.F.entry_list_index (PySem.F.args_list_index_2 _ _)
   (PySem.SeqAt.list_indexAt l D.toArray m none B u (λy=>k.ev y b) (pM P b) (by simpa using V) N9 ?_ (λi M j=>?_)) ⟨e,λy C=>?_,?_⟩
  .obtain⟨_,O⟩:=R _ V;simp only[List.getElem_toArray];rw[k.rel O];exact List.findIdx_getElem (w:=W)
  .obtain⟨_,O⟩:=R i (by simpa using M);simp only[List.getElem_toArray];rw[k.rel O];have:=List.not_of_lt_findIdx (xs:=P) j;simpa using this
  .obtain⟨i,M,rfl⟩:=List.mem_iff_getElem.mp (show y∈D by simpa using C);obtain⟨_,O⟩:=R i M;exact k.eq O Z
  .exact⟨.int (pM P b:Nat),H,I.tok _,⟨_,rr⟩,q⟩:MtM X "list.index" (aaV k X.K))) S (dI V gJ P) O m U P rr) λT H Q q=>?_;refine cX λ_ g'=>?_;obtain⟨B,R,d,Y,n,r,M,W⟩:=q;obtain⟨⟨Z,t⟩,A,M⟩:=oX M;obtain⟨⟨u,x⟩,o,M⟩:=oX M;apply g';cases Z<;>try (cases M)
 refine eX M λC E M=>?_;refine eX M λc p M=>?_;split at M
 .rename_i b;split at M
  .rename_i G;cases M
   refine⟨B,R,_,_,n,r,A,λv y I i J f1=>?_⟩;cases J
   rename_i l ws h L;have s:=k.is L E;subst s;refine⟨.inl ⟨rr,_,i.nh.seq h⟩,I,R,_,_,i.nh,r.mono i.bn,o,λw H2 N2 j N _=>?_⟩;have g:=i.trans j;exact⟨l,C,b,rr,k.is (.cons N .nil) p,j.nh.seq (j.bn.seq h),G,(W.into g).one g.nh (.int _)⟩
  simp_all
 simp_all
end
end DL
namespace DL
open PySem PySem.Spec PySem.W PyProof.Rows
section
variable {prog:Program}{w:World}{A:Around}{E:QV}{s:Shared}
def GY (f:s.heap.get? a=some (seqObj "list" vs.toArray n))(hk:Paired (f7 s.heap) ks vs)(hc:cz ks=true)(hf:c6 ks=true)(D:vs.length<64)
  (h:∀p:Array Nat,px vs.length p->Up (DA ks) p vs.length->P (.done (.ret .none)) { s with heap:=sortedHeap s.heap a vs (List.toArray (p.toList.map λi=>vs.getD i Value.none)) }):
  wpAny (model prog w) A (Builtin.«list.sort» ⟨[.ref a],[]⟩) P E s:=by
 have ha:=vX f;have W:ks.length=vs.length:=eZ hk;obtain⟨g,m⟩:∃g,(s.heap.update a (Obj.mapSeq λ_=>#[])).get? a=some (seqObj "list" #[] g):=⟨_,get?_update_seq f (λ_=>#[])⟩;let U:Heap:=((s.heap.update a (Obj.mapSeq λ_=>#[])).push (seqObj "tuple" vs.toArray 0)).push (seqObj "list" #[] 0);have l:∀b u,b≠a->s.heap.get? b=some u->U.get? b=some u:=λb u hb q=>
  vZ _ (vZ _ ((Heap.get?_update_ne _ _ _ _ hb).trans q))
 have c:U.get? a=some (seqObj "list" #[] g):=vZ _ (vZ _ m);have d:Paired (f7 U) ks vs:=L2.Paired.mapP hk λk v x=>x.keep λb u X q=>l b u (λz=>by
  lia) q
 rw[list_sort_plain];refine wX (listItems_at f rr (wX (listUpdate_at f rr (wX (seqEpoch_at m rr (wX (wpAny_newTuple (wX (wpAny_newList (wpAny_holding ?_))) (by show vs.length<=sizeLine;rw[sizeLine_eq];omega))))))));dsimp only;have o:∀(st:SortSt)(p:Array Nat),arrOf st=p.map (kas_item (vs.toArray.zip vs.toArray))->failedOf st=none->px vs.length p->Up (DA ks) p vs.length ->
   wpAny (model prog w) A (do
    let M:=(<-seqEpoch a) != g
    Builtin.List.listUpdate (.ref a) λ_=>(arrOf st).map (·.2)
    if let some e:=failedOf st then rule "list.sort.comparison-raised";throw e
    if M then rule "list.sort.modified";raiseError "ValueError" "list modified during sort"
    ret .none) P E { s with heap:=U }:=λst p F H ap I=>by
  have t:=kat_snds rr F;refine wX (seqEpoch_at c rr ?_);refine wX (listUpdate_at c rr ?_ (hsz2:=by rw[t];simp only[vH,vI,vG,ap.size,sizeLine_eq];lia));rw[H];simp only[bne_self_eq_false,uV,if_false];rw[t];exact wY (h p ap I)
 by_cases h2:vs.toArray.size<2
 .rw[if_pos h2,if_pos h2];refine wX (wY ?_);rw[StateT.run_pure];refine wX (wY ?_);have J:vs.length<2:=by simpa using h2
  refine o _ (List.toArray (List.range vs.length)) ?_ rr ⟨H9,q9⟩ ?_
  .grind[kas_range]
  .intro i j K hj;have:i=j:=N9
   subst this;exact Int.le_refl _
 .rw[if_neg h2,if_neg h2];have L:2<=vs.length:=by simp at h2;omega
  refine wX (zS (s:={ s with heap:=U }) d hf N9 ?_);obtain⟨p,N,R,S⟩:=zQ (n:=vs.length) (rk:=DA ks) N9;refine wX (wpAny_mono (kat_run (E:=E) (ks:=vs) (vs:=vs) (κ:=tuples' true) (s:={ s with heap:=U }) (Q:=λO Z=>Z={ s with heap:=U }/\arrOf O=p.map (kas_item (vs.toArray.zip vs.toArray))/\failedOf O=none)
   (G:=λy Z=>y=p/\Z={ s with heap:=U }) rr L D (λy O Z _ e2 B Y=>by
    simp_all) (Run.wp (λZ=>Z={ s with heap:=U }) (λi j C s1 hi hj e T=>DB (s:={ s with heap:=U }) hc d i j C s1 N9 N9 e T) N rr λZ e=>⟨rr,e⟩)) (λr Z V=>?_) λ_ _ z=>z)
  obtain⟨⟨⟩,O⟩:=r;obtain⟨rfl,e2,B⟩:=V;exact o O p e2 B R S
def Ah (D:s.heap.IsList l d.toArray)(F:Paired (f7 s.heap) e d)(K:cz e=true)(P:c6 e=true)(O:d.length<64)
  (h:∀p:Array Nat,px d.length p->Up (DA e) p d.length->Q (.ref (s.z+1)) { s with heap:=sortedAll s.heap d (List.toArray (p.toList.map λi=>d.getD i Value.none)) }):
  wpAny (model prog w) A (call (.builtin "sorted") [.ref l]) Q E s:=by
 let o:=(s.heap.push (seqObj "list" #[] 0)).update s.z (Obj.mapSeq (· ++ d.toArray));have c:o.objs.size=s.z+1:=by grind[Heap.size_update,size_push']
 let r:Heap:=o.push (seqObj "list" d.toArray 0);have M:r.get? (s.z+1)=some (seqObj "list" d.toArray 0):=by rw[<-c];exact vY _ rr
 have U:Paired (f7 r) e d:=L2.Paired.mapP F λk v x=>x.keep λb u y q=>
  vZ _ ((Heap.get?_update_ne _ _ _ _ (vS (vX q))).trans (vZ _ q))
 refine Calls.call_function_entry kind_sorted plain_sorted entry_sorted (args_sorted1 _) ?_;refine wX (wY (wX (collect_list D (wX (wpAny_newList ?_)))));rw[show((s.heap.push _).update _ _).objs.size=s.z+1 from c];exact wX (wpAny_holding (wpAny_call_entry slot_list_sort ⟨_,M,rr⟩ entry_list_sort (GY M U K P O λp R a=>⟨_,rr,wY ⟨_,rr,h p R a⟩⟩) (args_list_sort _)))
end
end DL
namespace DL
open PySem PySem.Spec PyProof.Rows L2
section
variable {X:Cx}
abbrev Tt:D->D->OB:=By (λz z=>true) λi j=>.int (Builtin.bitOr i j)
def aaW:dj X (binaryOp .BitOr) (rD X.K Tt):=gD Vz λz z z=>.int _
def lN:LD->OB
 |[.lst b]=>(dQ b).bind λa=>if a.length<64/\cz a=true/\c6 a=true/\(a.map bK).Nodup then some (.lst (eF a b),true)else none
 |_=>none
set_option tactic.hygienic true in
def GZ:bH X (.builtin "sorted") (yM X.K lN):=by
 intro y s A H C E Q I r h;obtain⟨B,dl,d,G,U,i,M,q⟩:=h;cases i with
 |nil=>cases M
 |cons P W=>
  cases W with
  |cons _ _=>cases P<;>cases M
  |nil=>
   cases P<;>try (cases M;done)
   rename_i l R z h D;obtain⟨u,rfl,f⟩:=gA r;cases f
   refine I.lisE (U.seq h) λo a Z J=>?_;have m:R.length=o.length:=a.length;have g:z.length=R.length:=D.length.symm;refine eX M λL S M=>?_;split at M
   .rename_i t;obtain⟨n,V,v,x⟩:=t;cases M
    have b:=lK S;have j:=oh I a (D.mono U) S;refine Ah Z.isList j V v N9 λp w c=>?_;have k:o.length=z.length:=N9
    rw[k]at w c;have O:∀i∈p.toList,i<z.length:=λi F=>mem_range.mp (w.perm.mem_iff.mp F);have e:=sE D p.toList O;rw[sM b V (sK x) w c]at e;refine sG I U q ?_ e ?_
    .simpa using pG a p.toList λi F=>by rw[<-g];exact O i F
    .rw[vI,vG,w.size,sizeLine_eq];lia
   .cases M
end
section
variable {X:Cx}{o e':Expr}{es:QD}
@[simp] def Cs (c:FE)(q:FA)(O:FE):FE:=λa=>(c a).bind λx=>(q a).bind λb=>(O a).bind λz=>match x.1 with
 |.dt M r=>if b.length<=sizeLine then (iP b).map λk=>((bj M r k).getD z.1,false)else none
 |_=>none
def Ha {R S O:Pos}{U:Nat}{V:FE}{W:FA}{g:FE}(I:X.A.units+1<cLine)(j:JE X o V)(J:JA X es W)(L:JE X e' g)(m:M2 X o "get" R (.Tuple es U O) e' S):JE X (.Call (.Attribute o "get" R) [.Tuple es U O,e'] [] S) (Cs V W g):=by
 refine PE.to (IN I j (rP J) L m) λσ H Q q=>?_;obtain⟨B,K,d,bb,l,r,M,q⟩:=q;refine eX M λx N M=>?_;refine eX M λT n M=>?_;refine eX M λz s M=>?_;refine⟨B,K,x.1,x.2,l,r,N,λv y Y U i1 _=>?_⟩;obtain⟨xd,C⟩:=x;cases i1 with
 |@dt a ks vs D h hl hs=>
  dsimp only at M;split at M
  .rename_i hz;refine eS M λk hk M=>?_;cases M
   refine⟨a,rr,.inr ⟨_,.inl (U.nh _ _ h)⟩,Y,K,T,U.nh,r.mono U.bn,n,λus H2 N2 c Z=>?_⟩;have hv:=yi Z hk;refine⟨by rw[Z.length];exact hz,λp hp=>?_⟩;have e:=Ext.laid (o:=.tup us) c.nh hp;refine⟨_,K,z.1,z.2,e.nh,((r.mono U.bn).mono c.bn).mono e.bn,s,λE F G b t _=>?_⟩;refine⟨jA _ k,.inr ⟨_,k,p,.inl (b.nh _ _ (b.bn _ _ (e.bn _ _ (c.bn _ _ h)))),rr,b.hh _ _ (by rw[av,hv]),rr⟩,?_⟩;have u:=((hs.mono c.bn).mono e.bn).mono b.bn;have i:=((U.trans c).trans e).trans b;rcases pJ k hl u with⟨v,d',f,P,w⟩|⟨f,P⟩
   .rw[f];rw[P]at q;exact(q.into i).one b.nh w
   .rw[f];rw[P]at q;exact(q.into i).one b.nh t
  .cases M
 |_=>cases M
end
structure Gq where
 fs:List (Str×Nat×(List D->OB))
 cs:List (Str×D)
 ds:List (Str×List (Str×D))
 no:List Str
 ls:List Str
structure Gq.Ok (g:Gq)(P:Program)(w:World)(K:Frag)(mg:Str->Option Value)(base:Heap):Prop where
 hx:∃h,K.In h/\h.Ns mainGlobals mg
 fs:∀t∈g.fs,Fn P w K mg base t.2.1 t.1 t.2.2
 cs:∀t∈g.cs,KC K mg t.1 t.2
 ds:∀t∈g.ds,KD w K mg t.1 t.2
 no:∀x∈g.no,mg x=none
 ls:∀x∈g.ls,zZ K x
structure Sq where
 g:Gq
 N:List Str
 sc:Scope
 cl:List Str
 k:Nat
 fn:Bool
 q:Option Str
structure Yq (S:Sq) where
 prog:Program
 w:World
 K:Frag
 mg:Str->Option Value
 base:Heap
 A:Around
 s:Shared
 H:Hp
 env:PySem.Env
 outer:List PySem.Env
 stack:List PySem.Env
 ex:List Addr
 rm:eQ S.k A
 cl:∀x∈S.cl,(env.cells.lookup x).isSome
 nd:S.N.Nodup
 ok:S.g.Ok prog w K mg base
 ql:∀x,S.q=some x->env.qual=x ++ ".<locals>."/\∀c P,PySem.W.tabIn K x=some (c,P)->env.code=.ref c
noncomputable abbrev c7 (S:Sq)(d:Yq S):Cx:=⟨d.prog,d.w,d.K,d.mg,d.base,d.A,S.N,d.s,d.H,{ d.env with scope:=S.sc },d.outer,d.stack,d.ex,λz=>S.fn,true,[],λz z=>False⟩
abbrev sZ (S:Sq)(e:Expr)(f:FE):Prop:=∀d:Yq S,JE (c7 S d) e f
abbrev wF (S:Sq)(e:Expr)(f:FT):Prop:=∀d:Yq S,JT (c7 S d) e f
abbrev QC (S:Sq)(e:Expr)(f:FT):Prop:=∀d:Yq S,JW (c7 S d) e f
abbrev K3 (S:Sq)(e:Stmt)(f:FS):Prop:=∀d:Yq S,JS (c7 S d) e f
abbrev QE (S:Sq)(e:List Stmt)(f:FS):Prop:=∀d:Yq S,ze (c7 S d) e f
structure Oj {α:Type}(J:α->Prop) where
 f:α
 ok:Bool
 p:ok->J f
abbrev bU {a:Type}(J:a->Prop):=LN->Option (Oj J×LN)
section
variable {α β γ δ:Type}{J J':α->Prop}{J1:β->Prop}{J2:γ->Prop}{J3:δ->Prop}
noncomputable def bV (k:Nat->bU J):bU J
 |[]=>none
 |i::h=>k i h
def DQ:Nat->(LN->bU J)->bU J
 |0,k=>k []
 |n+1,k=>bV λi=>DQ n λl=>k (i::l)
noncomputable def dc:(l:List β)->Nat->((a:β)->a∈l->bU J)->bU J
 |[],_,_=>λz=>none
 |a::_,0,k=>k a mX
 |_::l,i+1,k=>dc l i λb h=>k b (mZ _ h)
def DR(h:(a && b)=true):a:=by simp_all
def DS(h:(a && b)=true):b:=by simp_all
noncomputable def fG (c:Prop)[Decidable c](f:α)(k:c->J f):bU J:=λh=>some (⟨f,decide c,λe=>k (HN e)⟩,h)
noncomputable def qC (k:∀x,J x->J' x)(m:bU J):bU J':=λh=>match m h with
 |some (⟨f,o,p⟩,h)=>some (⟨f,o,λe=>k f (p e)⟩,h)
 |none=>none
noncomputable def bW (c:Prop)[Decidable c](g:α->β)(k:c->∀x,J x->J1 (g x))(m:bU J):bU J1:=λh=>match m h with
 |some (⟨f,o,p⟩,h)=>some (⟨g f,decide c && o,λe=>k (HN (DR e)) f (p (DS e))⟩,h)
 |none=>none
def cB (c:Prop)[Decidable c](g:α->β->γ)(k:c->∀x y,J x->J1 y->J2 (g x y))(m:bU J)(n:bU J1):bU J2:=λh=>match m h with
 |some (⟨f,o,p⟩,h)=>bW (c/\o) (g f) (λe y=>k e.1 f y (p e.2)) n h
 |none=>none
def Ai (c:Prop)[Decidable c](g:α->β->γ->δ)(k:c->∀x y z,J x->J1 y->J2 z->J3 (g x y z))(m:bU J)(n:bU J1)(o:bU J2):bU J3:=λh=>match m h with
 |some (⟨f,b,p⟩,h)=>cB (c/\b) (g f) (λe y z=>k e.1 f y z (p e.2)) n o h
 |none=>none
end
abbrev qD (S:Sq)(i:Nat)(x:Str):Prop:=S.N[i]? = some x/\(S.sc.names.lookup x=some .local\/S.sc.names.lookup x=some .cell\/S.sc.names.lookup x=some .free)/\bB x/\mo x
abbrev eG (S:Sq)(i:Nat)(x:Str):Prop:=S.N[i]? = some x/\(S.sc.names.lookup x=some .local\/S.sc.names.lookup x=some .cell)/\(S.fn\/S.sc.names.lookup x=some .local)
abbrev tj (S:Sq)(x y:Str):Prop:=x=y/\S.sc.names.lookup x=some .globalImplicit/\bB x
abbrev hV (S:Sq)(x y:Str):Prop:=tj S x y/\x∈S.g.no/\x ≠ "__name__"
noncomputable def bG:Expr->Bool
 |.Starred .. | .Slice .. | .Set .. | .SetComp .. | .DictComp ..=>false
 |_=>true
def tm:Expr->Bool
 |.ListComp ..=>false
 |e=>bG e
noncomputable def QF:Expr->Bool
 |.UnaryOp .Not .. | .BoolOp .. | .IfExp .. | .Compare ..=>false
 |_=>true
noncomputable def tq:Expr->Bool
 |.Call _ [] ..=>false
 |_=>true
section
variable {e:Expr}{es:QD}{env:PySem.Env}{p:Pos}
def aZ (h:bG e):dS e es env:=by cases e<;>first|rfl|cases h
theorem pN:∀ {es:QD},(∀e∈es,bG e)->k7 p es env
 |[],_=>rr
 |e::es,h=>by
  have:=pN (es:=es) λa m=>h a (by simp[m]);rw[k7,aZ (h e C_)];simp_all [backTo]
def ou (h:bG e)x:foldedSetIterable e env x=pure x:=by cases e<;>first|rfl|cases h
def ju(h:bG e):behindInMarks a e=false:=by cases e<;>first|rfl|cases h
def oy (h:bG e):nD e:=by cases e<;>first|(intro z z;rfl)|cases h
def jv(h:tm e):swapsWith e (some t) n env=pure false:=by cases e<;>first|rfl|cases h
def gG(h:tq e):attributeBase e a env w=w:=by
 cases e with
 |Call f c=>cases c with
  |nil=>cases h
  |cons b l=>cases f<;>rfl
 |_=>rfl
def gb (h:bG e):qi p e env:=by
 rw[qi,aZ h];rfl
def K4 (h:QF e)M:isTrue e env M=(do let v <-M;standAt e.pos;holding [v] (truthy v)):=by
 cases e with
 |UnaryOp a=>cases a<;>first|rfl|cases h
 |_=>first|rfl|cases h
end
structure Bq where
 op:Operator
 f:D->D->OB
 p:∀ {X:Cx},dj X (binaryOp op) (rD X.K f)
structure Cq where
 op:CmpOp
 f:D->D->OB
 p:∀ {X:Cx},X.A.units+40<cLine->dj X (compareOp op) (rD X.K f)
structure Tq where
 x:Str
 n:String
 b:bootBuiltins x=some (.type n)
structure Fq where
 x:Str
 f:List D->OB
 c:∀ {X:Cx}{e:Expr}{es:List Expr}{fa:FA}{p q:Pos},X.calm->X.mg x=none->JA X (e::es) fa->Gl X x->x ≠ "__name__"->bB x->dS e es X.env->k7 q es X.env->JE X (.Call (.Name x p) (e::es) [] q) (fA f fa)
noncomputable def o0 {x:Str}{i:String}{f:LD->OB}(b:bootBuiltins x=some (.builtin i))(c:∀ {X:Cx},X.calm->bH X (.builtin i) (yM X.K f)):Fq:=⟨x,f,λh m a g n d s t=>Je (c h) m b a g n d s t⟩
noncomputable def DT {x:Str}{i:String}{f:LD->OB}(b:bootBuiltins x=some (.type i))(c:∀ {X:Cx},X.calm->bH X (.type i) (yM X.K f)):Fq:=⟨x,f,λh m a g n d s t=>Gu (c h) m b a g n d s t⟩
structure Uq where
 x:Str
 y:Str
 f:D->OB
 p:∀ {X:Cx}{e:Expr}{g:FE}{p p2 q q2:Pos},X.calm->X.mg x=none->X.mg y=none->JE X e g->Gl X x->Gl X y->d4 e X.env->JE X (.Call (.Name x p) [.Call (.Name y p2) [e] [] q2] [] q) (f1 f g)
structure Mq where
 n:Str
 f:D->D->OB
 p:∀ {X:Cx}{o e:Expr}{fo fe:FE}{ap cp:Pos},X.A.units+1<cLine->JE X o fo->JE X e fe->tq o->bG e->ap.endLine == cp.line->JE X (.Call (.Attribute o n ap) [e] [] cp) (f2 f fo fe)
def Tu:List Bq:=[⟨_,_,VV⟩,⟨_,_,S1⟩,⟨_,_,VZ⟩,⟨_,_,SY⟩,⟨_,_,Sw⟩,⟨_,_,VX⟩,⟨_,_,Tp⟩,⟨_,_,Sm⟩,⟨_,_,VY⟩,⟨_,_,aaW⟩]
def Ct:List Cq:=[⟨_,_,λz=>Wi⟩,⟨_,_,aaF⟩,⟨_,_,λz=>aaH⟩,⟨_,_,λz=>Wh⟩,⟨_,_,λz=>Wk⟩,⟨_,_,aaE⟩,⟨_,_,λz=>NO⟩,⟨_,_,λz=>aaA⟩,⟨_,_,λz=>aa9⟩,⟨_,_,λz=>Jj⟩,⟨_,_,WC⟩]
noncomputable def Tv:List Tq:=[⟨_,_,Q0⟩,⟨_,_,Sx⟩,⟨_,_,Du⟩,⟨_,_,Wn⟩,⟨_,_,BO⟩]
def Tw:List Fq:=[o0 nN λz=>xO,o0 Qz λz=>We,o0 Wm λh=>Wv h,o0 nN λz=>GH,DT Du λz=>NX,DT Td λh=>Te h,o0 Wx λh=>Ww h,o0 nY λh=>GX h,o0 nY λz=>JM,DT BO λz=>SG,o0 Wl λh=>Wp h,o0 nY λz=>GZ,DT Q0 λz=>W5]
def Tz:List Uq:=[⟨_,_,_,λa b c d e f g=>Cc a b c d e f g⟩,⟨_,_,_,λa b c d e f g=>GA a b c d e f g⟩]
def T1:List Mq:=[⟨_,_,λk x y a b c=>Kd k x y ⟨gG a,gb b,c,by rw[aZ b];rfl⟩⟩,⟨_,_,λz x y a b c=>K2 WP x y (gG a) (gb b) c (aZ b)⟩,⟨_,_,λz x y a b c=>S5 PySem.F.slot_str_join PySem.F.type_str_join S8 Ju x y (gG a) (gb b) c (aZ b)⟩,⟨_,_,λz x y a b c=>K2 okS x y (gG a) (gb b) c (aZ b)⟩]
structure Rj where
 E:∀S e,bU (sZ S e)
 T:∀S e,bU (wF S e)
 W:∀S e,bU (QC S e)
noncomputable def K5 (o a:Scope):Scope:={ a with names:=a.names.map λ(n,k)=>if(k == .free && o.kind == .function && o.names.lookup n == some .cell)then (n,.cell)else (n,k) }
noncomputable def K6 (a:Scope):LS:=a.names.filterMap λy=>if y.2=.free then some y.1 else none
def yn (S:Sq)(N:LS)(a:Scope):Sq:=⟨S.g,N,K5 S.sc a,K6 a,S.k,false,S.q⟩
abbrev WQ (S:Sq)(N:LS)(a M:Scope)(j i:Nat):Prop:=∃x∈N[j]?,S.N[i]? = some x/\(S.sc.names.lookup x=some .cell\/S.sc.names.lookup x=some .free)/\(M.names.lookup x=some .cell\/M.names.lookup x=some .free)/\(x,NameKind.free)∈a.names/\x∈S.cl
noncomputable def tu (S:Sq)(N:LS)(a M:Scope):Nat->LN->Bool
 |j,[]=>N.length=j
 |j,i::r=>WQ S N a M j i && tu S N a M (j+1) r
section
variable {S:Sq}{N:LS}{sc:Scope}
theorem pO d:∀ {k:LN}{j:Nat},tu S N sc (K5 S.sc sc) j k->n8 (c7 S d) N sc (eC sc.names d.env.cells []) j k
 |[],_,h=>.nil (HN h)
 |_::_,_,h=>let ⟨_,e,a,b,c,f,g⟩:=HN (DR h);.cons e a b c (qX f (d.cl _ g)) (pO d (DS h))
abbrev K7 (S:Sq)(N:LS)(sc:Scope):Prop:=N.Nodup/\(∀y∈sc.names,y.2≠.cell)/\sc.kind=.function/\(∀y∈sc.names,y.2=.local->sc.names.lookup y.1=some .local)/\∀y∈sc.names,y.2=.free->y.1∈S.cl
def pP (d:Yq S)(h:∀z∈sc.names,z.2=.free->z.1∈S.cl):(sc.names.all λy=>!(y.2 == NameKind.free) || (d.env.cells.lookup y.1).isSome)=true:=by
 rw[all_eq_true];intro y a;cases b:y.2 == NameKind.free with
 |false=>rfl
 |true=>exact d.cl _ (h y a (by simpa using b))
def Aj (d:Yq S)(h:∀z∈sc.names,z.2=.free->z.1∈S.cl):∀x∈K6 sc,((eC sc.names d.env.cells []).lookup x).isSome:=λx hx=>by
 obtain⟨⟨M,k⟩,a,e⟩:=mem_filterMap.mp hx;split at e
 .rename_i b;cases e
  cases b
  rw[qX a (d.cl _ (h _ a rr))];exact d.cl _ (h _ a rr)
 .cases e
def Yq.inn (d:Yq S)(h:K7 S N sc)(C:Addr)(s:Shared)(H:Hp)(a:List Addr):Yq (yn S N sc):=⟨d.prog,d.w,d.K,d.mg,d.base,d.A,s,H,compEnvC sc (eC sc.names d.env.cells []) C { d.env with scope:=S.sc },d.stack,d.stack,a,d.rm,Aj d h.2.2.2.2,h.1,d.ok,d.ql⟩
end
section
variable (r:Rj) (S:Sq)
def qE:(a:QD)->bU λf=>∀d,JA (c7 S d) a f
 |[]=>fG True aw λz z=>p8
 |e::a=>cB (bG e) ao (λh z z x y d=>iJ (x d) (y d) (aZ h)) (r.E S e) (qE a)
def QG:(e:Option Expr)->bU λf=>∀d,JO (c7 S d) e f
 |none=>fG True kI λz z=>NL
 |some e=>bW True iL (λz z x d=>NM (x d)) (r.E S e)
def K8 (i:Nat)(p:Pos):(a:Expr)->(o:List CmpOp)->(D:QD)->bU λf=>sZ S (.Compare a o D p) f/\wF S (.Compare a o D p) (aY f)
 |a,[w],[b]=>dc Ct i λ⟨M,f,q⟩ v=>cB (w=M/\bG b) (f2 f) (λ⟨h,k⟩ v v x y=>by
   subst h;exact⟨λd=>Sa (q (kx d.rm)) (x d) (y d) (ju k),λd=>Sb (q (kx d.rm)) (x d) (y d) (ju k)⟩) (r.E S a) (r.E S b)
 |a,[w,M],[b,c]=>bV λj=>dc Ct i λ⟨U,f,q⟩ v=>dc Ct j λ⟨e,g,O⟩ v=>Ai (w=U/\M=e/\bG c) (kF f g) (λ⟨h,K,k⟩ v v v x y z=>by
   subst h K;have F:lastMarks [w,M] [b,c]=false:=ju k;exact⟨λd=>IZ (q (kx d.rm)) (O (kx d.rm)) (x d) (y d) (z d) F,λd=>Ja (q (kx d.rm)) (O (kx d.rm)) (x d) (y d) (z d) F⟩) (r.E S a) (r.E S b) (r.E S c)
 |_,_,_=>λv=>none
def QH (q w:Expr):bU λf=>∀d,JI (c7 S d) q w f:=bV λi=>match i,q,w with
  |0,_,e=>bW True cY (λz z x d=>S4 (x d)) (r.E S e)
  |1,_,e=>bW True yk (λz z x d=>O4 (x d)) (r.E S e)
  |2,_,.Call (.Name x _) [a] [] _=>bW (hV S x "range"/\bG a) kJ (λ⟨⟨⟨h,g⟩,m⟩,n⟩ z x d=>by subst h;exact Jo (d.ok.no _ m.1) (x d) g.1 (aZ n)) (r.E S a)
  |3,.Tuple ..,.Call (.Name x _) [a] [] _=>bW (hV S x "enumerate"/\bG a) JB (λ⟨⟨⟨h,g⟩,m⟩,n⟩ z x d=>by subst h;exact Oa (d.ok.no _ m.1) (x d) g.1 (aZ n)) (r.E S a)
  |4,.Tuple ..,.Call (.Name x _) [a,b] [] _=>cB (hV S x "zip"/\bG a/\bG b) Jy (λ⟨⟨⟨h,g⟩,m⟩,n,k⟩ z z x y d=>by subst h;exact SD (d.ok.no _ m.1) (x d) (y d) g.1 (by rw[aZ n,aZ k];rfl) (aZ k)) (r.E S a) (r.E S b)
  |5,_,.Call (.Attribute e n c) [] [] o=>bW (n = "values"/\tq e/\c.endLine == o.line) yj (λ⟨h,n,l⟩ z x d=>by subst h;exact O3 (x d) (gG n) l) (r.E S e)
  |6,.Tuple ..,.Call (.Attribute e n c) [] [] o=>bW (n = "items"/\tq e/\c.endLine == o.line) DO (λ⟨h,n,l⟩ z x d=>by subst h;exact Kw (x d) (gG n) l) (r.E S e)
  |7,_,.Call (.Name x _) [a] [] _=>bW (hV S x "reversed"/\bG a) Tk (λ⟨⟨⟨h,g⟩,m⟩,n⟩ z x d=>by subst h;exact Tn (d.ok.no _ m.1) (x d) g.1 (aZ n)) (r.E S a)
  |_,_,_=>λz=>none
def WR:(a:QD)->bU λf=>∀d,JC (c7 S d) a f
 |[]=>fG True se λz z=>RV
 |[e]=>qC (λz x d=>RW (x d)) (r.T S e)
 |_=>λz=>none
theorem kR d{i:Nat}{x:Str}{p:Pos}(h:eG S i x):PG (c7 S d) (.Name x p) (jm i):=Dc d.nd h.1 h.2.1 h.2.2
theorem QI d{i j k:Nat}{x y:Str}{p q s:Pos}(h:eG S i x)(g:eG S j y):PG (c7 S d) (.Tuple [.Name x p,.Name y q] k s) (Ij d.K 2 (jH [i,j])):=B7 rr (cQ (kR S d h) (cQ (kR S d g) lB))
def WS:(a:Expr)->Option ((N:LS) ×' (n:Nat) ×' (M:FG) ×' ∀S:Sq,(∀i (h:i<N.length),eG S i N[i])->∃t:Frag->TG,(∀d:Yq S,PG (c7 S d) a (t d.K))/\∀K,N6 K n M (t K))
 |.Name x _=>some ⟨[x],1,eA 0,λz h=>⟨λz=>jm 0,λd=>kR _ d (h 0 H9),λz=>sd I9⟩⟩
 |.Tuple [.Name x _,.Name y _] _ _=>some ⟨[x,y],2,HY [0,1],λz h=>⟨λK=>Ij K 2 (jH [0,1]),λd=>QI _ d (h 0 H9) (h 1 H9),λz=>Jw I9⟩⟩
 |_=>none
abbrev WT (S:Sq)(e:Expr)(f:FE):Prop:=sZ S e f/\∀y M a i,eG S i y->(∀d:Yq S,swapsWith e (some (.Name y M)) a.line (c7 S d).env=pure true)->S.sc.names.lookup y=some .local->K3 S (.Assign [.Name y M] e a) (dq i f)
def K9 (U z D:Expr)(e:QD)(f:Int)(k:Scope)(p:Pos):bU (WT S (.ListComp U [⟨z,D,e,f⟩] k p)):=bV λn=>DQ n λw=>match WS z with
 |none=>λy=>none
 |some ⟨N,n,g,q⟩=>(λM h=>match QH r S z D h with
  |none=>none
  |some (⟨R,o,a⟩,h)=>cB (f=0/\bG D/\o/\K7 S M k/\tu S M k (K5 S.sc k) n w/\∀i (h:i<N.length),eG (yn S M k) i N[i]) (gB R n w g) (λ⟨h,F,o,O,K,j⟩ y y b c=>by
    subst h;obtain⟨t,P,z⟩:=q _ j;exact⟨λd=>WK _ (a o d) (b (d.inn O _ _ _ _)) (c (d.inn O _ _ _ _)) (z _) (P (d.inn O _ _ _ _)) (pO d K) (O5 O.2.1 O.2.2.1 O.2.2.2.1 (pP d O.2.2.2.2)) rr λx=>ou F x,
     λy y y y V W X d=>WL _ d.nd (a o d) (b (d.inn O _ _ _ _)) (c (d.inn O _ _ _ _)) (z _) (P (d.inn O _ _ _ _)) (pO d K) V.1 X (W d) (O5 O.2.1 O.2.2.1 O.2.2.2.1 (pP d O.2.2.2.2)) rr λx=>ou F x⟩) (WR r (yn S M k) e) (r.E (yn S M k) U) h) (N++w.map (S.N.getD · ""))
end
section
variable (r:Rj) (S:Sq)
theorem KA:bindArgs (PySem.W.kla_fn "<lambda>" q ⟨[],[⟨y,a,k⟩],none,[],[],none,[]⟩ b o w z (.ref c) M) ⟨[u],[]⟩=pure [(y,u)]:=by
 have e:List.lookup y [(y,u)]=some u:=H9
 unfold bindArgs PySem.W.kla_fn;simp[e,seqItems?];rfl
theorem wG {S:Sq}(q:∀z∈k.names,z.2≠.cell)d:∀ {o:LN}{j:Nat},tu S N k k j o->lA (c7 S d) N k (eC k.names d.env.cells []) j o
 |[],_,h=>.nil (HN h)
 |_::_,_,h=>let ⟨_,e,a,b,c,f,g⟩:=HN (DR h);.cons e a b (c.resolve_left λz=>q _ (PySem.mem_of_lookup z) rr) (qX f (d.cl _ g)) (wG q d (DS h))
def KE (S:Sq)(N:LS)(a:Scope):Sq:=⟨S.g,N,a,K6 a,S.k - 3,false,none⟩
abbrev KG (S:Sq)(N:LS)(a:Scope)(y:Str)(b:LN):Prop:=N.Nodup/\(∀z∈a.names,z.2≠.cell)/\a.kind=.function/\a.isCoroutine=false/\a.isGenerator=false/\a.names.lookup y=some .local/\(∀z∈a.names,z.2=.free->z.1∈S.cl)/\3<=S.k/\(∃x∈S.q,x∈kE/\x∈S.g.ls)/\tu S N a a 1 b
theorem Ak {S:Sq}(h:KG S (y::N) o y q)(R:sZ (KE S (y::N) o) b U)d(e:A.frames=d.A.frames)(g:eQ (S.k - 3+1) A):
  JK (c7 S d) A (.Lambda ⟨[],[⟨y,P,F⟩],none,[],[],none,[]⟩ b o p) (Ab q U):=
 let ⟨V,D,X,Z,l,i,a,_,⟨x,hx,j,M⟩,m⟩:=h
 SU j (d.ok.ls _ M) (d.ql x hx).2 (by rw[(d.ql x hx).1];rfl) rr (W7 D X Z l i (pP d a)) rr (wG D d m) e g (λv v v v=>KA) λf c s H O=>R ⟨d.prog,d.w,d.K,d.mg,d.base,_,s,H,PySem.W.envX _ o s.z f _ _,d.stack,_,[],O,Aj d a,V,d.ok,λv z=>nomatch z⟩
def DU:(O:Expr)->bU λU=>∀d:Yq S,JK (c7 S d) d.A.in1 O U/\JK (c7 S d) d.A.in1.in1 O U
 |.Name x _=>bV λj=>dc S.g.fs j λ⟨y,k,F⟩ m=>fG (tj S x y/\k+2<=S.k) (GD F) λ⟨⟨e,h⟩,c⟩ d=>by
   subst e;exact⟨Q6 (d.ok.fs _ m) ((d.rm.mono (vR (le_succ _) c)).in1) rr h.1 h.2,Q6 (d.ok.fs _ m) ((d.rm.mono c).in1.in1) rr h.1 h.2⟩
 |.Lambda ⟨[],[⟨y,w,z⟩],none,[],[],none,[]⟩ b o p=>bV λn=>DQ n λa=>bW (KG S (y::a.map (S.N.getD · "")) o y a) (Ab a) (λM v q d=>by
    have c:S.k - 3+2+1<=S.k:=by have:=M.2.2.2.2.2.2.2.1;lia
    exact⟨Ak M q d rr ((d.rm.mono c).in1.mono (le_succ _)),Ak M q d rr (d.rm.mono c).in1.in1⟩) (r.E (KE S (y::a.map (S.N.getD · "")) o) b)
 |_=>λv=>none
def T2 (p:Pos):(f:Expr)->(R:QD)->(V:List Keyword)->bU (sZ S (.Call f R V p))
 |.Name x _,e::w,[]=>bV λi=>
  if i<100 then dc S.g.fs i λ⟨y,k,F⟩ m=>bW (tj S x y/\k<=S.k/\∀a∈e::w,bG a) (fA F) (λ⟨⟨u,h⟩,W,z⟩ t a d=>by
   subst u;exact WH (d.ok.fs _ m) d.rm (a d) W h.1 h.2 (aZ (z e H9)) (pN λa m=>z a (by simp[m]))) (qE r S (e::w))
  else if i<140 then dc Tw (i - 100) λ⟨y,f,c⟩ t=>bW (hV S x y/\∀a∈e::w,bG a) (fA f) (λ⟨⟨⟨u,h⟩,k⟩,z⟩ t a d=>by
   subst u;exact c rr (d.ok.no _ k.1) (a d) h.1 k.2 h.2 (aZ (z e H9)) (pN λa m=>z a (by simp[m]))) (qE r S (e::w))
  else match e,w with
   |.Call (.Name y _) [e] [] _,[]=>dc Tz (i - 140) λ⟨O,U,f,q⟩ t=>bW (hV S x O/\hV S y U/\bG e) (f1 f) (λ⟨⟨⟨u,h⟩,k⟩,⟨⟨v,g⟩,l⟩,n⟩ t a d=>by
    subst u v;exact q rr (d.ok.no _ k.1) (d.ok.no _ l.1) (a d) h.1 g.1 (aZ n)) (r.E S e)
   |.Call (.Name y _) [a,b] [] _,[]=>cB (hV S x "list"/\hV S y "zip"/\bG a/\bG b) fLZ (λ⟨⟨⟨u,h⟩,k⟩,⟨⟨v,g⟩,l⟩,n,m⟩ t t a b d=>by
    subst u v;exact Ck rr (d.ok.no _ k.1) (d.ok.no _ l.1) (a d) (b d) h.1 g.1 (by rw[aZ n,aZ m];rfl) (aZ m) rr) (r.E S a) (r.E S b)
   |_,_=>λt=>none
 |.Name x _,[e],[⟨some K,M,_⟩]=>bV λi=>match i with
  |0=>cB (hV S x "max"/\K = "key"/\bG e) DF (λ⟨⟨⟨u,h⟩,k⟩,v,n⟩ t t a b d=>by
   subst u v;exact Q9 mmx (d.ok.no _ k.1) (a d) (b d).1 d.rm h.1 (aZ n)) (r.E S e) (DU r S M)
  |1=>cB (hV S x "min"/\K = "key"/\bG e) DG (λ⟨⟨⟨u,h⟩,k⟩,v,n⟩ t t a b d=>by
   subst u v;exact Q9 mmn (d.ok.no _ k.1) (a d) (b d).1 d.rm h.1 (aZ n)) (r.E S e) (DU r S M)
  |3=>cB (hV S x "sorted"/\K = "key"/\bG e) Cn (λ⟨⟨⟨u,h⟩,k⟩,v,n⟩ t t a b d=>by
   subst u v;exact Q7 (Kt (kx d.rm)) (d.ok.no _ k.1) (a d) (b d).2 h.1 (aZ n)) (r.E S e) (DU r S M)
  |_=>cB (hV S x "sorted"/\K = "key"/\bG e) yf (λ⟨⟨⟨u,h⟩,k⟩,v,n⟩ t t a b d=>by
   subst u v;exact Q7 SW (d.ok.no _ k.1) (a d) (b d).2 h.1 (aZ n)) (r.E S e) (DU r S M)
 |.Attribute o n D,[e],[]=>bV λi=>match i,o,e with
  |9,o,.Tuple w _ _=>cB (n = "get"/\tq o/\D.endLine == p.line) Ko (λ⟨u,a,l⟩ t t x y d=>by subst u;exact Kp (MC (kx d.rm)) (x d) (y d) ⟨gG a,rr,l,rr⟩) (r.E S o) (qE r S w)
  |i+10,.Subscript (.Name x _) b _,e=>dc S.g.ds i λ⟨y,c⟩ m=>cB (tj S x y/\n = "index"/\bG b/\bG e/\D.endLine == p.line) (f2 (mK c)) (λ⟨⟨u,h⟩,v,X,P,Z⟩ t t a b d=>by
   subst u v;exact Og (d.ok.ds _ m) (a d) (b d) h.1 h.2 (oy X) rr (gb P) Z (aZ P)) (r.E S b) (r.E S e)
  |i,o,e=>dc T1 i λ⟨j,f,q⟩ t=>cB (n=j/\tq o/\bG e/\D.endLine == p.line) (f2 f) (λ⟨u,a,b,l⟩ t t x y d=>by subst u;exact q (MC (kx d.rm)) (x d) (y d) a b l) (r.E S o) (r.E S e)
 |.Attribute o n D,[.Tuple w _ _,.Constant .none ..],[]=>cB (n = "get"/\tq o/\D.endLine == p.line) (λf g=>Cs f g (fC .non)) (λ⟨u,a,l⟩ t t x y d=>by subst u;exact Ha (MC (kx d.rm)) (x d) (y d) IY ⟨gG a,rr,l,rr⟩) (r.E S o) (qE r S w)
 |_,_,_=>λt=>none
def T3:(e:Expr)->bU (sZ S e)
 |.Name x _=>bV λi=>
  if i<50 then fG (qD S i x) (ak i) λh v=>RX i h.1 h.2.1 h.2.2.1 h.2.2.2
  else if i<80 then dc S.g.cs (i - 50) λ⟨y,c⟩ m=>fG (tj S x y) (fC c) λ⟨u,h⟩ d=>by subst u;exact Jf (d.ok.cs _ m) h.1 h.2
  else dc Tv (i - 80) λ⟨y,n,b⟩ v=>fG (hV S x y) (fC (.ty n)) λ⟨⟨u,h⟩,k⟩ d=>by subst u;exact Wf (d.ok.no _ k.1) b h.1 k.2 h.2
 |.Constant (.int _) ..=>fG True _ λv v=>RY
 |.Constant (.bool _) ..=>fG True _ λv v=>VO
 |.Constant .none ..=>fG True _ λv v=>IY
 |.Constant (.str _) ..=>fG True _ λv v=>RZ
 |.BoolOp _ [a] _=>qC (λv x d=>Si (x d)) (r.E S a)
 |.BoolOp .And (a::b::t) p=>cB True zh (λv v v x y d=>Sh (x d) (y d)) (r.E S a) (r.E S (.BoolOp .And (b::t) p))
 |.BoolOp .Or (a::b::t) p=>cB True Qx (λv v v x y d=>VS (x d) (y d)) (r.E S a) (r.E S (.BoolOp .Or (b::t) p))
 |.UnaryOp .Not a _=>bW True Jb (λv v x d=>Sj (x d)) (r.E S a)
 |.UnaryOp .USub a _=>bW True (f1 Jh) (λv v x d=>VQ Wj (x d)) (r.E S a)
 |.BinOp a F b _=>bV λi=>dc Tu i λ⟨M,f,q⟩ v=>cB (F=M) (f2 f) (λh v v x y d=>by subst h;exact VP q (x d) (y d)) (r.E S a) (r.E S b)
 |.Compare a o D p=>bV λi=>if i<20 then qC (λv h=>h.1) (K8 r S i p a o D)else match o,D with
  |[.In],[b]=>cB (bG b) (f2 UH) (λh v v x y d=>Tj (MC (kx d.rm)) (x d) (y d) (ju h)) (r.E S a) (r.E S b)
  |_,_=>λv=>none
 |.Subscript a (.Slice K P none _) _=>Ai True Dz (λv v v v x y z d=>Js (x d) (y d) (z d)) (r.E S a) (QG r S K) (QG r S P)
 |.Subscript a b _=>bV λi=>match i,a with
  |0,a=>cB (bG b) (f2 cI) (λh v v x y d=>Wd (x d) (y d) (oy h)) (r.E S a) (r.E S b)
  |1,a=>cB (bG b) (f2 Ou) (λh v v x y d=>Ta (MC (kx d.rm)) (x d) (y d) (oy h)) (r.E S a) (r.E S b)
  |i+2,.Name x _=>dc S.g.ds i λ⟨y,c⟩ m=>bW (tj S x y/\bG b) (f1 (zy c)) (λ⟨⟨u,h⟩,n⟩ v x d=>by subst u;exact NV (d.ok.ds _ m) (x d) h.1 h.2 (oy n)) (r.E S b)
  |_,_=>λv=>none
 |.Tuple w _ _=>bW True (fA cS) (λv v x d=>Sk (x d)) (qE r S w)
 |.List w _=>bW True (fA eE) (λv v x d=>Sl (x d)) (qE r S w)
 |.ListComp O [⟨R,V,U,j⟩] W p=>qC (λv h=>h.1) (K9 r S O R V U j W p)
 |.Call f X Z p=>T2 r S p f X Z
 |_=>λv=>none
def T4:(e:Expr)->bU (wF S e)
 |.UnaryOp .Not a _=>bW True kj (λv v x d=>Sg (x d)) (r.T S a)
 |.BoolOp w z p=>qC (λv x d=>aa1 (x d)) (r.W S (.BoolOp w z p))
 |.Compare a k o p=>bV λi=>if i<20 then bW True aY (λv v h=>h.2) (K8 r S i p a k o)else match i,k,o with
  |20,[.In],[b]=>bW True aY (λv v x=>x) (cB (J2:=λf=>wF S (.Compare a [.In] [b] p) (aY f)) (bG b) (f2 UH) (λh v v x y d=>Tc (MC (kx d.rm)) (x d) (y d) (ju h)) (r.E S a) (r.E S b))
  |20,[.NotIn],[b]=>bW True aY (λv v x=>x) (cB (J2:=λf=>wF S (.Compare a [.NotIn] [b] p) (aY f)) (bG b) (f2 yg) (λh v v x y d=>GI (MC (kx d.rm)) (x d) (y d) (ju h)) (r.E S a) (r.E S b))
  |i,[.NotIn],[.Name x q]=>dc S.g.ds (i - 30) λ⟨y,c⟩ m=>bW True aY (λv v x=>x) (bW (J1:=λf=>wF S (.Compare a [.NotIn] [.Name x q] p) (aY f)) (tj S x y) (f1 (BV c)) (λ⟨u,h⟩ v x d=>by subst u;exact GC (d.ok.ds _ m) (x d) h.1 h.2 rr) (r.E S a))
  |_,_,_=>λv=>none
 |e=>bW (QF e) aY (λh v x d=>Sc (x d) (K4 h)) (r.E S e)
def T5:(e:Expr)->bU (QC S e)
 |.BoolOp .Or [a] _=>qC (λz x d=>Se (x d)) (r.T S a)
 |.BoolOp .Or (a::b::t) p=>cB True gK (λz z z x y d=>VR (x d) (y d)) (r.T S a) (r.W S (.BoolOp .Or (b::t) p))
 |.BoolOp .And [a] _=>qC (λz x d=>NE (x d)) (r.T S a)
 |.BoolOp .And (a::b::t) p=>cB True bJ (λz z z x y d=>Sf (x d) (y d)) (r.T S a) (r.W S (.BoolOp .And (b::t) p))
 |_=>λz=>none
end
def DV:Nat->Rj
 |0=>⟨λz z z=>none,λz z z=>none,λz z z=>none⟩
 |n+1=>⟨T3 (DV n),T4 (DV n),T5 (DV n)⟩
def QJ (S:Sq):(a:Expr)->bU λM=>∀d:Yq S,∃t,PG (c7 S d) a t/\M8 d.K M t
 |.Name x _=>bV λi=>fG (eG S i x) (eA i) λh d=>⟨_,kR S d h,IW⟩
 |.Tuple [.Name x _,.Name y _] _ _=>bV λi=>bV λj=>fG (eG S i x/\eG S j y) (HY [i,j]) λh d=>⟨_,QI S d h.1 h.2,W1⟩
 |_=>λz=>none
section
variable (B:∀S b,bU (QE S b)) (S:Sq)
abbrev d7:Rj:=DV 24
def KH (p:Pos)(c o:Expr)(b:List Stmt):bU (K3 S (.For c o b [] p)):=bV λi=>match i,o with
 |0,o=>Ai (bG o) zc (λh w w w x y z d=>let ⟨_,a,k⟩:=y d;WM (x d) a k (z d) PassesOwn.never rr λx=>ou h x) (QH d7 S c o) (QJ S c) (B S b)
 |_,.Call (.Name x _) [a] [] _=>Ai (hV S x "range"/\bG a) rZ (λ⟨⟨⟨u,h⟩,k⟩,n⟩ w w w x y z d=>by
   subst u;obtain⟨t,a,l⟩:=y d;exact WN (x d h.1 (d.ok.no _ k.1) (aZ n)) a l (z d) PassesOwn.never rr λx=>ou rr x)
   (bW (J1:=λf=>∀d:Yq S,Gl (c7 S d) "range"->d.mg "range" = none->starEach [a] (c7 S d).env=[(false,eval a (c7 S d).env)]->∀ {p q:Pos},PI (c7 S d) c (.Call (.Name "range" q) [a] [] p) (VN d.K f)) True kJ (λw w x d h m n w w=>zr m (x d) h n) (d7.E S a)) (QJ S c) (B S b)
 |_,_=>λw=>none
def KI:(R:Stmt)->bU (K3 S R)
 |.Return (some e) _=>bV λi=>match i,e with
  |0,e=>bW True za (λt t x d=>Jc (x d)) (d7.E S e)
  |90,.Tuple [a,b] _ _=>bW True za (λt t x d=>Jc (x d)) (cB (J2:=sZ S (.Tuple [a,b] _ _)) (bG a/\bG b) Kz (λh t t x y d=>O9 (x d) (y d) (aZ h.1) (aZ h.2)) (d7.E S a) (d7.E S b))
  |i+1,.Name x _=>fG (qD S i x) (qt i) λh t=>NH i h.1 h.2.1 h.2.2.1 h.2.2.2
  |_,_=>λt=>none
 |.If c a b _=>Ai True yN (λt t t t x y z d=>Wb (x d) (y d) (z d)) (d7.T S c) (B S a) (B S b)
 |.Assign [.Name x q] (.ListComp M [⟨w,D,O,U⟩] F p) X=>bV λi=>if i<50 then bW (eG S i x/\S.sc.names.lookup x=some .local/\S.sc.kind=.function/\(q.line == p.line)/\(F.names.any λ(n,k)=>n == x && (k == .local || k == .cell))=false) (dq i) (λh t y=>y.2 _ _ _ _ h.1 (λd=>by
   show pure ((if S.sc.kind.isAnnotationScope then ScopeKind.function else S.sc.kind) == ScopeKind.function && S.sc.names.lookup x == some NameKind.local && q.line == p.line && !(F.names.any λ(n,k)=>n == x && (k == .local || k == .cell)))=_;rw[h.2.2.2.2,h.2.2.2.1,h.2.1,h.2.2.1];rfl) h.2.1) (K9 d7 S M w D O U F p)
  else λt=>none
 |.Assign [.Tuple [.Name x _,.Name y _] _ _] (.Subscript a b q) _=>bV λi=>bV λj=>bW (eG S i x/\eG S j y) (nR [i,j]) (λh t x d=>xT (x d) (BW rr (cQ (kR S d h.1) (cQ (kR S d h.2) lB)) rr rr) rr rr rr) (d7.E S (.Subscript a b q))
 |.Assign [.Tuple [.Name x _,.Name y _] _ _] (.Name a q) _=>bV λi=>bV λj=>bW (eG S i x/\eG S j y) (nR [i,j]) (λh t x d=>xT (x d) (BW rr (cQ (kR S d h.1) (cQ (kR S d h.2) lB)) rr rr) rr rr rr) (d7.E S (.Name a q))
 |.Assign [.Tuple [.Name x _,.Name y _,.Name z _] _ _] (.Subscript a b q) _=>bV λi=>bV λj=>bV λl=>bW (eG S i x/\eG S j y/\eG S l z) (nR [i,j,l]) (λh t x d=>xT (x d) (BW rr (cQ (kR S d h.1) (cQ (kR S d h.2.1) (cQ (kR S d h.2.2) lB))) rr rr) rr rr rr) (d7.E S (.Subscript a b q))
 |.Assign [.Name x _] (.Dict [] [] _) _=>bV λv=>bV λi=>match v with
  |0=>fG (eG S i x) (DK i) λh d=>Ov d.nd h.1 h.2.1 rr h.2.2
  |1=>fG (eG S i x) (DM i) λh d=>Ow d.nd h.1 h.2.1 rr h.2.2
  |_=>λt=>none
 |.Assign [.Name x _] e _=>bV λv=>bV λi=>match v with
  |0=>bW (eG S i x/\tm e) (dq i) (λh t x d=>Ss d.nd (x d) h.1.1 h.1.2.1 (jv h.2) h.1.2.2) (d7.E S e)
  |1=>bW (eG S i x/\tm e) (Dl i) (λh t x d=>NI d.nd (x d) h.1.1 h.1.2.1 (jv h.2) h.1.2.2) (d7.E S e)
  |_=>λt=>none
 |.Assign [.Subscript (.Name y _) k _] e _=>bV λv=>bV λi=>match v,k with
  |0,k=>cB (qD S i y/\bG k/\tm e) (NY i) (λh t t x z d=>SH (z d) (x d) h.1.1 h.1.2.1 h.1.2.2.1 h.1.2.2.2 (by have:=h.2.1;intro t;cases k<;>first|rfl|cases this) (by unfold swapsWithSole;exact jv h.2.2) rr rr) (d7.E S k) (d7.E S e)
  |1,k=>cB (qD S i y/\tm e) (w4 i) (λh t t x z d=>Ox (MC (kx d.rm)) (z d) (x d) h.1.1 h.1.2.1 h.1.2.2.1 h.1.2.2.2 (jv h.2)) (d7.E S k) (d7.E S e)
  |2,k=>cB (qD S i y/\tm e) (sY i) (λh t t x z d=>Kx (MC (kx d.rm)) (z d) (x d) h.1.1 h.1.2.1 h.1.2.2.1 h.1.2.2.2 (jv h.2)) (d7.E S k) (d7.E S e)
  |3,.Tuple V _ _=>cB (qD S i y/\tm e) (wA i) (λh t t x z d=>Oy (MC (kx d.rm)) (z d) (x d) h.1.1 h.1.2.1 h.1.2.2.1 h.1.2.2.2 (jv h.2)) (qE d7 S V) (d7.E S e)
  |_,_=>λt=>none
 |.For w D b [] p=>bV λn=>match n with
  |0=>KH B S p w D b
  |n=>DQ n λu=>bW True (Q2 u) (λt t x d=>W3 u (x d)) (KH B S p w D b)
 |.While c b [] _=>bV λn h=>match d7.T S c h with
  |none=>none
  |some (⟨f,o,p⟩,h)=>match B S b h with
   |none=>none
   |some (⟨g,W,r⟩,h)=>some (⟨cy f g n,o && W,λe d=>Jd n PassesOwn.never (p (DR e) d) (r (DS e) d)⟩,h)
 |.Expr (.Call (.Attribute (.Name x _) m K) [e] [] P) _=>bV λv=>bV λi=>match v with
  |0=>bW (qD S i x/\m = "append"/\bG e/\K.endLine == P.line) (rX i) (λ⟨h,u,n,l⟩ t x d=>by subst u;exact Sv (x d) h.1 h.2.1 h.2.2.1 h.2.2.2 rr (gb n) l (aZ n) rr) (d7.E S e)
  |1=>bW (qD S i x/\m = "extend"/\bG e/\K.endLine == P.line) (J8 i) (λ⟨h,u,n,l⟩ t x d=>by subst u;exact SJ (x d) h.1 h.2.1 h.2.2.1 h.2.2.2 rr (gb n) l (aZ n) rr) (d7.E S e)
  |_=>λt=>none
 |.Raise ..=>fG True sk λt t=>J0
 |.Continue _=>fG True Jz λt t=>NU
 |_=>λt=>none
end
def t0:Nat->∀S b,bU (QE S b)
 |0,_,_=>λz=>none
 |_+1,_,[]=>fG True mv λz z=>So
 |n+1,S,[a]=>qC (λz x d=>Sr (x d)) (KI (t0 n) S a)
 |n+1,S,a::t::l=>cB True ce (λz z z x y d=>NG (x d) (y d)) (KI (t0 n) S a) (t0 n S (t::l))
noncomputable def Cu {a:Type}{J:a->Prop}:Option (Oj J×LN)->Option a
 |some (⟨f,_,_⟩,_)=>some f
 |none=>none
noncomputable def Cv {a:Type}{J:a->Prop}:Option (Oj J×LN)->Bool
 |some (⟨_,o,_⟩,_)=>o
 |none=>false
theorem OC {a:Type}{J:a->Prop}{g:a}:∀ {o:Option (Oj J×LN)},Cv o=true->J ((Cu o).getD g)
 |some (⟨_,_,p⟩,_),k=>p k
@[simp] noncomputable abbrev au (o:Option FS)(g:FS)(_:o=some g):FS:=g
noncomputable def WU (n:Nat)(l:List Stmt):List Stmt:=
 match l[n / 2]?,n % 2 with
 |some (.For _ _ b _ _),_=>b
 |some (.While _ b _ _),_=>b
 |some (.If _ a _ _),0=>a
 |some (.If _ _ b _),_=>b
 |_,_=>[]
structure Wq where
 G:Gq
 x:Str
 st:Stmt
 N:List Str
 k:Nat
 h:List Nat
noncomputable def nmS:Stmt->Str
 |.FunctionDef n _ _ _ _ _ _ _ _ _=>n
 |_=>""
def loS (a:Stmt):LS:=(aM a).names.filterMap λy=>match y.2 with
 |.local=>some y.1
 |.cell=>some y.1
 |_=>none
noncomputable def hx:Nat->Nat->LN
 |0,_=>[]
 |k+1,n=>if n<2 then []else match n % 16 with
  |13=>(n / 16 % 256+13)::hx k (n / 4096)
  |14=>1000::hx k (n / 16)
  |d=>d::hx k (n / 16)
def Wq.S (w:Wq):Sq:=⟨w.G,w.N,aM w.st,(aM w.st).names.filterMap λy=>if(aM w.st).names.lookup y.1=some .cell then some y.1 else none,w.k,true,if w.x∈w.G.ls then some w.x else none⟩
def Wq.r (w:Wq):Option FS:=Cu (t0 40 w.S (cr w.st) w.h)
def Wq.b (w:Wq)(l:LN)(o:Nat):Option FS:=Cu (t0 40 w.S (l.foldl (λl n=>WU n l) (cr w.st)) (w.h.drop o))
noncomputable def Wq.gt (w:Wq)(F:LD->OB):Gq:=⟨(w.x,w.k+1,F)::w.G.fs,w.G.cs,w.G.ds,w.G.no,w.G.ls⟩
section
variable {P:Program}{w:World}{K:Frag}{mg:SV}{base:Heap}
abbrev a7 (w:World)(K:Frag)(mg:SV)(g:Gq):Prop:=∀ {P base},g.Ok P w K mg base
def Wq.js (W:Wq)(o:Cv (t0 40 W.S (cr W.st) W.h))(M:W.G.Ok P w K mg base)
 {b:Value}(q:W.N.Nodup) (O:eQ W.k (A.deeper (envOfC W.x (aM W.st) s.z f b))) (D:W.x∈W.G.ls->∀c P,PySem.W.tabIn K W.x=some (c,P)->b=.ref c):
  ze (rQ Bw P w K mg base W.N W.x (aM W.st) f b A a s H E).nox (cr W.st) (W.r.getD sk):=by
 refine OC o ⟨P,w,K,mg,base,_,s,H,envOfC W.x _ s.z f b,a,envOfC W.x _ s.z f b::a,[],O,λy F=>?_,q,M,λy e=>?_⟩
 .obtain⟨z,R,e⟩:=mem_filterMap.mp F;split at e
  .cases e;exact Option.isSome_iff_exists.mpr (rR ‹_›)
  .cases e
 .have e:(if W.x∈W.G.ls then some W.x else none)=some y:=e;split at e
  .cases e;exact⟨rr,D ‹_›⟩
  .cases e
def Wq.o {O:LD->OB}(W:Wq)(F:Dy K W.x W.st)(U:a7 w K mg W.G)(n:Nat)
  (o:Cv (t0 40 W.S (cr W.st) W.h):=by decide +kernel)
  (S:FnScope W.N (W.N.take n) (aM W.st):=by refine⟨rr,rr,rr,?_,rr,?_,?_⟩<;>decide +kernel)
  (M:∀(kV b k:Value)(z:Option Addr)(D R:Value)(c:LU),c.length=(W.N.take n).length->bindArgs (fnOf W.x W.x (gR W.st) (cr W.st) (aM W.st) .none kV b k z D R) ⟨c,[]⟩=pure ((W.N.take n).zip c):=by
   exact λy y y y y y=>Ti _ _ (by(repeat intro);rfl))
  (e:a0 (W.r.getD sk) (W.N.take n).length (W.N.length - (W.N.take n).length)=O:=by kernel_rfl):a7 w K mg (W.gt O):=λ{P base}=>
 have q:=U
 ⟨q.hx,λt h=>by
  rcases vP h with h|h
  .subst h;exact F.fqL q.hx _ W.N n (λV a y X=>W.js o q V a λy=>X) S M e
  .exact q.fs _ h,q.cs,q.ds,q.no,q.ls⟩
end
end DL
namespace DL
open PySem L2
def gH (I:Nat->Env->Prop)(o:LD)(O:Env)(z:I 0 O)
  (w:∀i d q,o[i]? = some d->I i q->∃M k,tg d q=some M/\(g M=some (.nx k)\/g M=some (.ct k))/\I (i+1) k):
  ∃k,fX tg g o O=some (.nx k)/\I o.length k:=by
 have U:∀(r:LD)(i:Nat)(q:Env),o.drop i=r->i+r.length=o.length->I i q->∃k,fX tg g r q=some (.nx k)/\I o.length k:=by
  intro r;induction r with
  |nil=>simp_all
  |cons d r b=>
   intro i q e D h;obtain⟨M,k,S,V,K⟩:=w i d q (by
    have:(o.drop i)[0]? = some d:=by rw[e];rfl
    grind) h;obtain⟨a,c,R⟩:=b _ _ (by rw[<-List.drop_drop,e];rfl) (by simp at D;lia) K;refine⟨a,?_,R⟩;simp_all<;>lia
 exact U o 0 _ q9 H9 z
def o3 (n:Nat)(I:Nat->Env->Prop)(O:Env)(q:I 0 O)
  (c:∀(i:Nat) e,i<n->I i e->∃M a,tg (.int i) e=some M/\(g M=some (.nx a)\/g M=some (.ct a))/\I (i+1) a):
  ∃a,fX tg g (fE 0 n) O=some (.nx a)/\I n a:=by
 have r:(fE 0 n).length=n:=by simp[fE]
 obtain⟨a,w,z⟩:=gH I (fE 0 n) _ q λi d e b h=>by
  unfold fE at b;rw[vA]at b;refine eS b λk o b=>?_;obtain⟨U,o⟩:=vV o;rw[length_range]at U;rw[List.getElem_range]at o;subst o;rw[Int.zero_add]at b;subst b;exact c i e U h
 simp_all
def jK {a:Type}{xs:List a}{j:Nat}h:mr xs j=some xs[j]:=Ni (by simp )
def yo {b:Type}{a:List b}(c:0<=i)h:mr a i=some a[i.toNat]:=by
 have:=jK h;rwa [Int.toNat_of_nonneg c]at this
@[simp] def QK (a:LI):aU (a.map D.int)=true:=by
 induction a with
 |nil=>simp
 |cons x a M=>simp[M]
@[simp] def MD n(a:LI):(a.map D.int).all (aT n)=true:=by
 simp
@[simp] def OD (a:LI):(a.map D.int).all iM=true:=by
 simp
def Hb n:fE 0 n=((List.range n).map λ(k:Nat)=>(k:Int)).map D.int:=by
 simp[fE]
mutual
noncomputable def o4:D->D->Bool
 |.non,.non=>true
 |.bl a,.bl b=>a == b
 |.int a,.int b=>decide (a=b)
 |.str a,.str b=>decide (a=b)
 |.ty a,.ty b=>decide (a=b)
 |.tup c,.tup k=>t6 c k
 |.lst c,.lst k=>t6 c k
 |_,_=>false
noncomputable def t6:LD->LD->Bool
 |[],[]=>true
 |x::a,y::b=>o4 x y && t6 a b
 |_,_=>false
end
mutual
theorem DW:∀ {x y:D},o4 x y=true->x=y
 |.non,y,h=>by cases y<;>first|rfl|cases h
 |.bl a,y,h=>by cases y<;>first|cases h;done|rw[eq_of_beq h]
 |.int a,y,h=>by cases y<;>first|cases h;done|rw[of_decide_eq_true h]
 |.str a,y,h=>by cases y<;>first|cases h;done|rw[of_decide_eq_true h]
 |.ty a,y,h=>by cases y<;>first|cases h;done|rw[of_decide_eq_true h]
 |.tup c,y,h=>by cases y<;>first|cases h;done|rw[t7 h]
 |.lst c,y,h=>by cases y<;>first|cases h;done|rw[t7 h]
 |.dk _ _,_,h=>nomatch h
 |.dt _ _,_,h=>nomatch h
theorem t7:∀ {a b:LD},t6 a b=true->a=b
 |[],[],_=>rr
 |x::a,y::b,h=>by
  have h:=Bool.and_eq_true_iff.mp h;rw[DW h.1,t7 h.2]
end
def ZD (r:OB)(d:D)(b:Bool):Bool:=match r with
 |some (e,c)=>o4 e d && c == b
 |none=>false
def yp (h:ZD r d b=true):r=some (d,b):=by
 rcases r with z|⟨e,c⟩
 .cases h
 .have h:=Bool.and_eq_true_iff.mp h;rw[DW h.1,eq_of_beq h.2]
section
variable {f:FE}{c:FT}{g g' h:FS}{ρ ρ':Env}{i:Nat}{d:D}{b:Bool}{r:Option Res}{ds:LD}
def ah (a:ds.length=n)(e:g (ds.map (λd=>some (d,false))++List.replicate k none)=some (.rt d b)):a0 g n k ds=some (d,b):=by
 unfold a0;rw[if_pos a,e]
def Hd (n:bi d=true):setE ρ i d b=ρ.set i (some (d,false)):=by unfold setE;rw[if_pos n]
def KJ (n:aU ds=true):setE ρ i (.lst ds) true=ρ.set i (some (.lst ds,true)):=by
 simp_all
def OE (n:bi d=false)(m:b=false\/zb d=false):setE ρ i d b=(unown ρ).set i (some (d,false)):=by
 unfold setE;rw[if_neg (by simp[n]),if_neg λz=>by
  lia]
def KN (e:f ρ=some (d,b))(k:h (setE ρ i d b)=r):ce (dq i f) h ρ=r:=by simp[e];exact k
def Cw (e:f ρ=some (d,b))(n:bi d=true)(k:h (ρ.set i (some (d,false)))=r):ce (dq i f) h ρ=r:=KN e (by rw[(by unfold setE;rw[if_pos n]:setE ρ i d b=ρ.set i (some (d,false)))];exact k)
def bo (e:f ρ=some (.lst ds,true))(n:aU ds=true)(k:h (ρ.set i (some (.lst ds,true)))=r):ce (dq i f) h ρ=r:=KN e (by rw[KJ n];exact k)
def aJ (e:g ρ=some (.nx ρ'))(k:h ρ'=r):ce g h ρ=r:=by unfold ce;rw[e];exact k
def He (e:g ρ=some (.rt d b)):ce g h ρ=some (.rt d b):=by unfold ce;rw[e]
def WV (e:g ρ=some (.ct ρ')):ce g h ρ=some (.ct ρ'):=by unfold ce;rw[e]
def cV (e:c ρ=some true)(k:g ρ=r):yN c g g' ρ=r:=by unfold yN;rw[e];exact k
def bP (e:c ρ=some false)(k:g' ρ=r):yN c g g' ρ=r:=by unfold yN;rw[e];exact k
def KO (e:c ρ=some x)(M:x=true->g ρ=r)(O:x=false->g' ρ=r):yN c g g' ρ=r:=by
 cases x with
 |true=>exact cV e (M rr)
 |false=>exact bP e (O rr)
def aR (e:c ρ=some true)(k:g ρ=some (.rt d b)):ce (yN c g g') h ρ=some (.rt d b):=He (cV e k)
def aq (e:c ρ=some false)(k:h ρ=r):ce (yN c g mv) h ρ=r:=aJ (bP e rr) k
def am (e:f ρ=some (d,b)):za f ρ=some (.rt d b):=by simp[e]
def gy (e:ρ[i]? = some (some (d,b)))(a:IS d=false:=by rfl):qt i ρ=some (.rt d b):=by simp only[qt,e,a];simp
def eI (e:f ρ=some (d,b))(n:bi d=true):dq i f ρ=some (.nx (ρ.set i (some (d,false)))):=by
 simp_all
def rf (e:f ρ=some (.lst ds,true))(n:aU ds=true):dq i f ρ=some (.nx (ρ.set i (some (.lst ds,true)))):=by
 simp_all
def dU (e:ρ[i]? = some (some (.lst ds,true)))(M:f ρ=some (d,b))(n:bi d=true)(l:ds.length<sizeLine):rX i f ρ=some (.nx (ρ.set i (some (.lst (ds++[d]),true)))):=by
 simp_all
def kU (e:j ρ=some ds)(k:fX l g ds ρ=some (.nx ρ')):rZ j l g ρ=some (.nx ρ'):=by unfold rZ;rw[e];exact k
def lO (e:j (iI ρ)=some ds)(k:fX l g ds ρ=some (.nx ρ')):zc j l g ρ=some (.nx ρ'):=by unfold zc;rw[e];exact k
def gX {f:FE}{j:Nat}(e:f ρ=some (.int j,b))(a:j<=1000):kJ f ρ=some (fE 0 j):=by
 simp_all<;>lia
def ci (e:f ρ=some (.bl x,b)):aY f ρ=some x:=by unfold aY;rw[e]
def aQ (e:fa ρ=some ds)(k:F ds=x):fA F fa ρ=x:=by simp_all
def jw {f1 k:D->D->OB}{o M O:FE}{x y z:D}{b1 b2 b3 b4 p q:Bool}(U:o ρ=some (x,b1))(a:M ρ=some (y,b2))(e:O ρ=some (z,b3))(j:f1 x y=some (.bl p,b4))(w:p=true->k y z=some (.bl q,false)):kF f1 k o M O ρ=some (.bl (p && q),false):=by
 unfold kF;rw[U,a,e];simp [j];cases p
 .rfl
 .exact w rr
def bQ {f1 f2:FE}{p q b1:Bool}(M:f1 ρ=some (.bl p,b1))(a:p=true->f2 ρ=some (.bl q,false)):zh f1 f2 ρ=some (.bl (p && q),false):=by
 unfold zh;rw[M];cases p
 .rfl
 .exact a rr
def kW {f1 f2:FE}{p q b1:Bool}(M:f1 ρ=some (.bl p,b1))(a:p=false->f2 ρ=some (.bl q,false)):Qx f1 f2 ρ=some (.bl (p || q),false):=by
 unfold Qx;rw[M];cases p
 .exact a rr
 .rfl
def DX {f1:FE}{p b1:Bool}(M:f1 ρ=some (.bl p,b1)):Jb f1 ρ=some (.bl (!p),false):=by
 unfold Jb;rw[M]
def aC (M:f ρ=some (d,b))(a:O ρ=some e):ao f O ρ=some (d::e):=by
 simp_all
def fH (M:e ρ=some (x,b1))(a:U ρ=some (y,b2))(O:j x y=z):f2 j e U ρ=z:=by
 simp_all
def aD (M:O ρ=some p)(a:p=true->c2 ρ=some q):bJ O c2 ρ=some (p && q):=by
 unfold bJ;rw[M];cases p
 .rfl
 .exact a rr
def b7 (M:O ρ=some p)(a:p=false->c2 ρ=some q):gK O c2 ρ=some (p || q):=by
 unfold gK;rw[M];cases p
 .exact a rr
 .rfl
def bw (M:O ρ=some p):kj O ρ=some (!p):=by
 unfold kj;rw[M];rfl
end
theorem WX (a c:Nat):decide ([a]<[c])=decide (a<c):=by
 simp[cons_lt_cons_iff]
@[simp] def DY a c:yO (.str ⟨#[a]⟩) (.str ⟨#[c]⟩)=some (.bl (decide (a<=c)),false):=by
 grind[yO,WX]
def be (h:n<=100000):n<sizeLine:=lt_of_le_of_lt h I9
def cD (h:n<=100000):n<=sizeLine:=le_of_lt (be h)
def d8 {o:Type}(l:List o)(g:o->D)(p:o->Bool)(h:o->D)(e:fi ρ=some (l.map g))(q:l.length<=100000)
  (k:∀x∈l,∃M,tg (g x) (cR nT cap ρ)=some M/\c M=some (p x)/\(p x=true->∃b,fe M=some (h x,b))):gB fi nT cap tg c fe ρ=some (.lst ((l.filter p).map h),true):=by
 have U:∀O:List o,(∀x∈O,x∈l)->gN tg c fe (cR nT cap ρ) (O.map g)=some ((O.filter p).map h):=by
  intro O;induction O with
  |nil=>simp
  |cons x O a=>
   grind[mX,BN]
 unfold gB;rw[e,vJ,if_pos (cD (by simpa using q)),U l λz h=>h,Option.map_some]
def gP {a:Type}(l:List a)(g:a->D)(h:a->D)(e:fi ρ=some (l.map g))(o:l.length<=100000)
  (k:∀x∈l,∃M,tg (g x) (cR nT cap ρ)=some M/\∃b,fe M=some (h x,b)):gB fi nT cap tg se fe ρ=some (.lst (l.map h),true):=by
 have:=d8 (c:=se) l g _ h e o λx hx=>by
  obtain⟨M,q,r⟩:=k x hx;exact⟨M,q,rr,λz=>r⟩
 rw[List.filter_eq_self.mpr λz z=>rr]at this;exact this
@[simp] def KP {a:Type}f(l:List a):xQ (l.map λx=>.bl (f x))=some (l.map f):=by
 induction l with
 |nil=>rfl
 |cons x l M=>simp[M]
def BH (a:0<=i)(h:i.toNat<z.cps.size)(b:z.length<=100000):cI (.str z) (.int i)=some (.str ⟨#[z.cps.toList.getD i.toNat 0]⟩,false):=by
 simp_all[cD,yo]
def IB (a:0<=i)(h:i.toNat<d.length):cI (.tup d) (.int i)=some (d.getD i.toNat .non,false):=by
 simp_all[yo]
def DZ {xs:LI}{i:Int}(a:0<=i)(h:i.toNat<xs.length):cI (.lst (xs.map .int)) (.int i)=some (.int (xs.getD i.toNat 0),false):=by
 rw[(by
  simp_all[yo]:cI (.lst (List.map D.int xs)) (.int i)=some ((List.map D.int xs).getD i.toNat .non,false))];simp[h]
def Hf (z:Str):zv z=z.cps.toList.map λc=>.str ⟨#[c]⟩:=rfl
def mod_lt {x m:Int}(a:0<m):0<=x % m/\x % m<m:=⟨Int.emod_nonneg _ N9,Int.emod_lt_of_pos _ a⟩
def jL:nM [.lst d]=some (.int d.length,false):=rfl
def aL x y(M:e d=some (x,false))(a:U d=some (y,false))(O:f x y=z):f2 f e U d=z:=fH M a O
def bC (e:f d=some (.bl x,false)):aY f d=some x:=ci e
def aP (M:f e=some (d,false))(a:O e=some g):ao f O e=some (d::g):=aC M a
def a5 a(e:d f=some a)(k:F a=x):fA F d f=x:=aQ e k
def dz d(e:f g=some (d,false))(n:bi d=true)(k:h (g.set i (some (d,false)))=r):ce (dq i f) h g=r:=KN e (by rw[Hd n];exact k)
@[simp] noncomputable abbrev eR (c:LI)(k:LS)(o:Int)(M:LS)(R:LD)(a b:OB)(t:Env):Env:=some (.lst (c.map .int),false)::some (.lst (k.map .str),false)::some (.int o,false)::a::some (.lst (M.map .str),true)::some (.lst R,true)::b::t
end DL
set_option backward.eqns.nonrecursive true
namespace Lw
open PySem PySem.Spec PyProof.Rows L2 DL
def uO:D:=(.int 255)
def Cy:D:=(.int 9999)
def t8:D:=(.int 9)
def t9:D:=(.int 8)
def uR:D:=(.int 20)
def m6:D:=(.int 8)
def qF:D:=(.int 60)
noncomputable def KQ:D:=(.tup [(.str "paper"),(.str "like"),(.str "copy")])
noncomputable def cE:List (PySem.Str×D):=[(("root" : Str),(.tup [(.str "office"),(.str "matters"),(.str "further"),(.str "rule")])),(("named" : Str),(.tup [(.str "day"),(.str "office"),(.str "person")])),(("chosen" : Str),(.tup [(.str "day"),(.str "by"),(.str "office"),(.str "person"),(.str "since")])),(("heir" : Str),(.tup [(.str "day"),(.str "by"),(.str "office"),(.str "person")])),(("death" : Str),(.tup [(.str "day"),(.str "person")])),(("lost" : Str),(.tup [(.str "day"),(.str "person")])),(("found" : Str),(.tup [(.str "day"),(.str "person")])),(("leave" : Str),(.tup [(.str "day"),(.str "by"),(.str "person"),(.str "matters"),(.str "stretch"),(.str "further")])),(("paper" : Str),(.tup [(.str "day"),(.str "by"),(.str "matters"),(.str "stretch"),(.str "whom"),(.str "pieces")])),(("like" : Str),(.tup [(.str "day"),(.str "by"),(.str "matters"),(.str "stretch"),(.str "whom"),(.str "of"),(.str "changes")])),(("copy" : Str),(.tup [(.str "day"),(.str "by"),(.str "of")])),(("call" : Str),(.tup [(.str "day"),(.str "by"),(.str "of")]))]
noncomputable def kX:D:=(.tup [(.str "by"),(.str "person"),(.str "whom")])
noncomputable def OF:D:=(.tup [(.str "open"),(.str "first"),(.str "last")])
noncomputable def jM:D:=(.tup [(.str "chosen"),(.str "heir"),(.str "leave"),(.str "paper"),(.str "like"),(.str "copy"),(.str "call")])
noncomputable def KR (i:Nat):Stmt:=PySem.Challenge.pw_sealchain_k52_whole_what_stands.main.body.getD i (.Pass ⟨0,0,0,0⟩)
abbrev cx (G:Gq)(i k h:Nat):Wq:=⟨G,nmS (KR i),KR i,loS (KR i),k,hx 999 h⟩
noncomputable def Hg:Gq:=⟨[],[("ALL_MATTERS",uO),("LAST_DAY",Cy),("MOST_FURTHER",t8),("MOST_LETTERS",t9),("MOST_PEOPLE",uR),("MOST_PIECES",m6),("MOST_ROWS",qF),("PAPERS",KQ),("PERSON_PARTS",kX),("RULES",OF),("SEALINGS",jM)],[("PARTS",cE)],["all","any","bool","dict","enumerate","int","isinstance","len","list","max","min","range","reversed","set","sorted","str","tuple","zip"],["in_order","has_seal","is_first_death","bases_by"]⟩
def OG:=cx (Hg) 6 0 0x12010044d057d43d057d0
def mM:=a0 (au OG.r _ rr) 3 0
def OH:=cx (OG.gt mM) 7 1 0x126d000
def tE:=a0 (au OH.r _ rr) 1 0
def OJ:=cx (OH.gt tE) 8 2 0x10000300000200000058d145d057d
def o5:=a0 (au OJ.r _ rr) 1 0
def OK:=cx (OJ.gt o5) 12 1 0x125d020
def o6:=a0 (au OK.r _ rr) 1 0
def OL:=cx (OK.gt o6) 22 0 0x100000059d0028d058d0046d057d
def lQ:=a0 (au OL.r _ rr) 1 0
def OM:=cx (OL.gt lQ) 24 0 0x12ed0446d057d0
def wH:=a0 (au OM.r _ rr) 1 0
def ON:=cx (OM.gt wH) 23 1 0x1010
def mN:=a0 (au ON.r _ rr) 1 0
def OO:=cx (ON.gt mN) 25 2 0x10000059d002ad058d0045d057d
def iQ:=a0 (au OO.r _ rr) 1 0
def OP:=cx (OO.gt iQ) 26 2 0x10012ad000700058d145d057d
def iR:=a0 (au OP.r _ rr) 1 0
def OQ:=cx (OP.gt iR) 27 3 0x1103114059d000000100000059d45d057d
def jN:=a0 (au OQ.r _ rr) 1 1
def Eb:=cx (OQ.gt jN) 28 4 0x1100120052bd0190051400527d19005170051600515120051500505051800505
def dM:=a0 (au Eb.r _ rr) 2 0
def Ec:=cx (Eb.gt dM) 29 5 0x110000024059d0000258d1058d10011d046d0057d058d545d057d
def pQ:=a0 (au Ec.r _ rr) 1 0
def Ed:=cx (Ec.gt pQ) 32 0 0x10000
def bq:=a0 (au Ed.r _ rr) 1 0
def Ee:=cx (Ed.gt bq) 33 1 0x1100a10000
def ay:=a0 (au Ee.r _ rr) 2 0
def Ef:=cx (Ee.gt ay) 34 2 0x10000015
def bD:=a0 (au Ef.r _ rr) 1 0
def Eg:=cx (Ef.gt bD) 30 3 0x100100010130250120010
def kY:=a0 (au Eg.r _ rr) 1 1
def Eh:=cx (Eg.gt kY) 31 6 0x1000040001d00058d145d057d
def tF:=a0 (au Eh.r _ rr) 1 0
def Ei:=cx (Eh.gt tF) 39 2 0x1030450000
def hW:=a0 (au Ei.r _ rr) 1 0
def Ej:=cx (Ei.gt hW) 40 3 0x1001441550
def gd:=a0 (au Ej.r _ rr) 2 0
def Ek:=cx (Ej.gt gd) 35 1 0x10006289d0
def hZ:=a0 (au Ek.r _ rr) 1 0
def El:=cx (Ek.gt hZ) 36 2 0x117fd01162dd0400001
def iS:=a0 (au El.r _ rr) 1 1
def Al:=cx (El.gt iS) 41 3 0x1180d020112000010
abbrev qQ:=au (Al.b [2] 7) _ rr
def ib:=a0 (au Al.r _ rr) 1 2
def Em:=cx (Al.gt ib) 42 7 0x129d110081001030010052bd17
def jO:=a0 (au Em.r _ rr) 2 0
def Am:=cx (Em.gt jO) 43 8 0x122102158d1005bd1045d47d05ad
abbrev tG:=au (Am.b [4] 13) _ rr
def gz:=a0 (au Am.r _ rr) 1 2
def En:=cx (Am.gt gz) 44 0 0x10210003110
def fJ:=a0 (au En.r _ rr) 2 0
def Eo:=cx (En.gt fJ) 46 3 0x11100a0
def ie:=a0 (au Eo.r _ rr) 2 0
def Ep:=cx (Eo.gt ie) 48 7 0x1010012200010b61010012
def fj:=a0 (au Ep.r _ rr) 2 1
def Er:=cx (Ep.gt fj) 60 0 0x10000000
def kZ:=a0 (au Er.r _ rr) 1 0
def Es:=cx (Er.gt kZ) 49 2 0x10001d002d52005cd00101030012
def iT:=a0 (au Es.r _ rr) 2 1
def Et:=cx (Es.gt iT) 45 0 0x1120000058d2300
def de:=a0 (au Et.r _ rr) 3 0
def Eu:=cx (Et.gt de) 52 3 0x13002d02003d51004d40
def rg:=a0 (au Eu.r _ rr) 4 0
def Ev:=cx (Eu.gt rg) 53 4 0x1032104001060043240
def lR:=a0 (au Ev.r _ rr) 5 0
def Ew:=cx (Ev.gt lR) 54 5 0x13210058d50
def rh:=a0 (au Ew.r _ rr) 4 0
def Ex:=cx (Ew.gt rh) 55 7 0x101701400007d500458d53210140
def mO:=a0 (au Ex.r _ rr) 4 1
def Ey:=cx (Ex.gt mO) 56 8 0x14310043101020006d4020007d3002fd20008d92104
def jP:=a0 (au Ey.r _ rr) 3 2
def Ez:=cx (Ey.gt jP) 9 0 0x1100310201000
def lS:=a0 (au Ez.r _ rr) 2 0
def E1:=cx (Ez.gt lS) 58 1 0x10000100
def fm:=a0 (au E1.r _ rr) 2 0
def E2:=cx (E1.gt fm) 59 0 0x100000
def ig:=a0 (au E2.r _ rr) 1 0
def E3:=cx (E2.gt ig) 61 4 0x1001000000015
def mP:=a0 (au E3.r _ rr) 2 0
def E4:=cx (E3.gt mP) 62 5 0x16050101005305116010cd30504010cd5458d80458d5003007fd40010220cd005001223
def lb:=a0 (au E4.r _ rr) 3 4
def E5:=cx (E4.gt lb) 63 6 0x12310050
def dN:=a0 (au E5.r _ rr) 4 0
def E6:=cx (E5.gt dN) 64 7 0x120102d01415030dd30ed1094020030
def ge:=a0 (au E6.r _ rr) 3 2
def E7:=cx (E6.gt ge) 65 9 0x140ed40fd521310700410d505240fd1000d0500410d931000410d530040
def o7:=a0 (au E7.r _ rr) 4 2
def E8:=cx (E7.gt o7) 66 2 0x121010d010d0
def iU:=a0 (au E8.r _ rr) 3 0
def An:=cx (E8.gt iU) 67 2 0x15503502504035035403508357250115095000040
abbrev Ao:=au (An.b [2] 7) _ rr
def yq:=a0 (au An.r _ rr) 4 2
def E9:=cx (An.gt yq) 68 3 0x123114103112d112d0040112d30
def ij:=a0 (au E9.r _ rr) 3 2
def Ap:=cx (E9.gt ij) 69 6 0x18469870691000d965839908002091005206527fd006527040012d6040013d50
abbrev jQ:=au (Ap.b [6] 35) _ rr
def lf:=a0 (au Ap.r _ rr) 5 5
def EA:=cx (Ap.gt lf) 70 7 0x143210061040013d40014d52260002005
def jf:=a0 (au EA.r _ rr) 5 2
def Aq:=cx (EA.gt jf) 71 10 0x107d22043210020515d515d515d33516d5452220516d54514d542120516d5421054005041008d0003120
abbrev pR:=au (Aq.b [4] 11) _ rr
def tH:=a0 (au Aq.r _ rr) 2 4
def EB:=cx (Aq.gt tH) 74 1 0x12cd20017d421006d0
def cJ:=a0 (au EB.r _ rr) 3 0
def EC:=cx (EB.gt cJ) 75 1 0x120018d521007d0
def io:=a0 (au EC.r _ rr) 3 0
def ED:=cx (EC.gt io) 76 2 0x1210121000
def gg:=a0 (au ED.r _ rr) 3 0
def EE:=cx (ED.gt gg) 13 0 0x1110250
def jx:=a0 (au EE.r _ rr) 2 0
def EF:=cx (EE.gt jx) 80 2 0x10011ad01ad701bd5001ad11ad0
def lg:=a0 (au EF.r _ rr) 2 0
def EG:=cx (EF.gt lg) 81 7 0x12100011ad11bd2000d
def gS:=a0 (au EG.r _ rr) 3 0
def EH:=cx (EG.gt gS) 84 8 0x121bd0102d001cd504220002102100dd5422530040
def iq:=a0 (au EH.r _ rr) 4 2
def EI:=cx (EH.gt iq) 11 0 0x1100060012
def jg:=a0 (au EI.r _ rr) 2 0
def EJ:=cx (EI.gt jg) 10 1 0x110000001000
def iV:=a0 (au EJ.r _ rr) 2 0
def EK:=cx (EJ.gt iV) 47 4 0x12013d1013da0
def ir:=a0 (au EK.r _ rr) 3 0
def EL:=cx (EK.gt ir) 82 5 0x120035004320d1431fd0ad0120020020d4010030
def lh:=a0 (au EL.r _ rr) 3 2
def EM:=cx (EL.gt lh) 83 2 0x10102021d5300220002191016d01023
def li:=a0 (au EM.r _ rr) 3 1
def EN:=cx (EM.gt li) 85 6 0x100211230202020022d10030
def jh:=a0 (au EN.r _ rr) 3 1
def EO:=cx (EN.gt jh) 86 5 0x10302303310c20023d30
def jR:=a0 (au EO.r _ rr) 3 1
def EQ:=cx (EO.gt jR) 87 9 0x100004303101321071403100030025d50310b
def fq:=a0 (au EQ.r _ rr) 4 1
def ER:=cx (EQ.gt fq) 77 7 0x143024d2010ad70306245dd00125d025db1016d55170526d50525d6530025d6040050
def mQ:=a0 (au ER.r _ rr) 5 3
def ES:=cx (ER.gt mQ) 78 9 0x143210031011d005625d84626d1627d130060
def jS:=a0 (au ES.r _ rr) 6 1
def ET:=cx (ES.gt jS) 79 10 0x105403210101cd04321050031001d
def mR:=a0 (au ET.r _ rr) 5 0
def EU:=cx (ET.gt mR) 88 11 0x143210058d500430027d831013d
def o8:=a0 (au EU.r _ rr) 5 0
def Ar:=cx (EU.gt o8) 89 12 0x155310454225310051003d5101cd000401006d31
abbrev KS:=au (Ar.b [4] 14) _ rr
def yr:=a0 (au Ar.r _ rr) 3 3
def EV:=cx (Ar.gt yr) 90 0 0x110007d0050
def rj:=a0 (au EV.r _ rr) 2 0
def As:=cx (EV.gt rj) 91 1 0x1221110030115dd32060010
abbrev KU:=au (As.b [2] 8) _ rr
def yt:=a0 (au As.r _ rr) 1 3
def EW:=cx (As.gt yt) 92 13 0x1210205ed0
def iu:=a0 (au EW.r _ rr) 3 0
def EX:=cx (EW.gt iu) 94 0 0x1110210330
def pT:=a0 (au EX.r _ rr) 3 0
def wI:=cx (EX.gt pT) 95 2 0x12054202030258d48543002ed00313002fd13170010002ed20
abbrev qR:=au (wI.b [2,2] 27) _ rr
abbrev eV:=au (wI.b [2] 12) _ rr
def iz:=a0 (au wI.r _ rr) 2 4
def Au:=cx (wI.gt iz) 96 3 0x143135fd4dd4002fd40300040030d5430404100bd349e24030
abbrev eJ:=au (Au.b [4] 9) _ rr
def rq:=a0 (au Au.r _ rr) 3 2
def Av:=cx (Au.gt rq) 97 2 0x13230d0020231d5e10020
abbrev km:=au (Av.b [2] 9) _ rr
def fK:=a0 (au Av.r _ rr) 2 1
def EY:=cx (Av.gt fK) 98 14 0x1002031d11bd30022000210dd210401023
def pU:=a0 (au EY.r _ rr) 3 1
def EZ:=cx (EY.gt pU) 99 3 0x110132d0
def pV:=a0 (au EZ.r _ rr) 2 0
def Fa:=cx (EZ.gt pV) 100 15 0x102130100210101020
def o9:=a0 (au Fa.r _ rr) 3 0
def Fb:=cx (Fa.gt o9) 102 0 0x1226501144058d1450041120058d8141201000058d13
def oA:=a0 (au Fb.r _ rr) 2 1
def Aw:Wq:=⟨Fb.gt oA,"_law_names",KR 103,["_law_cell_here","_law_letters","_law_base","_law_at","_law_names_here","_law_k","_law_name"],0,hx 999 0x15624054071510360260d6051040258d07530041275100512012210⟩
abbrev Cz:=au (Aw.b [8] 30) _ rr
def pW:=a0 (au Aw.r _ rr) 1 6
def Fc:=cx (Aw.gt pW) 104 0 0x1175200358d17530015800000040003
def lU:=a0 (au Fc.r _ rr) 3 1
def Fd:=cx (Fc.gt lU) 105 1 0x1058d137552109058d13757652040375901540403754007652015375076852037554311540801537521212070375060430050
def mS:=a0 (au Fd.r _ rr) 5 5
def Fe:=cx (Fd.gt mS) 106 2 0x1775205460775207751205604577520202701560457755177520208560270180452754006044177017505160175058d7150153040313030
def yu:=a0 (au Fe.r _ rr) 3 6
def Ax:=cx (Fe.gt yu) 107 3 0x14284104530304175058d7161d0102030175520203017501502030043200410
abbrev wJ:=au (Ax.b [10] 46) _ rr
def tI:=a0 (au Ax.r _ rr) 1 4
def Ay:=cx (Ax.gt tI) 108 0 0x10035002505505140540000
abbrev C0:=au (Ay.b [0] 6) _ rr
def lV:=a0 (au Ay.r _ rr) 4 2
def Az:=cx (Ay.gt lV) 109 1 0x14040100507055040700407057046000706200050300040
abbrev C1:=au (Az.b [4] 13) _ rr
def fw:=a0 (au Az.r _ rr) 4 4
def A0:=cx (Az.gt fw) 110 0 0x14000400021105021105610100001404160451207d462d40505050405033502350025055000040
abbrev wK:=au (A0.b [2] 7) _ rr
def fL:=a0 (au A0.r _ rr) 4 3
def A1:=cx (A0.gt fL) 111 0 0x155405050850250353503508502250515055000040
abbrev C2:=au (A1.b [2] 7) _ rr
def lW:=a0 (au A1.r _ rr) 4 2
def A2:=cx (A1.gt lW) 112 1 0x1357b9207b103b6a1893b0789202000013002a071a0300020051005207893a941005000876
abbrev Hh:=au (A2.b [2] 12) _ rr
def tJ:=a0 (au A2.r _ rr) 6 6
def A3:=cx (A2.gt tJ) 113 2 0x157354100408060680980578080804080808041408080805380580808034257210380478080804038007d80570008072000605140
abbrev fy:=au (A3.b [6] 11) _ rr
def mT:=a0 (au A3.r _ rr) 4 5
def Ff:=cx (A3.gt mT) 114 0 0x1000000005
def d9:=a0 (au Ff.r _ rr) 1 0
def wL:=cx (Ff.gt d9) 115 2 0x100a0a0b8745cb81060b81095601c0b81081060a05921055a004a05a059000a092000387400060
abbrev A4:=au (wL.b [4,2,4] 48) _ rr
abbrev A5:=au (wL.b [4] 14) _ rr
def jT:=a0 (au wL.r _ rr) 6 7
def A6:=cx (wL.gt jT) 117 1 0x100101043255650103101501150956043150431031032
abbrev oB:=au (A6.b [2] 9) _ rr
def dO:=a0 (au A6.r _ rr) 2 5
def Fg:=cx (A6.gt dO) 116 0 0x1100000061020010003
def ji:=a0 (au Fg.r _ rr) 2 0
def Fh:=cx (Fg.gt ji) 118 1 0x100103101002000000107000600010310563d1102000013009110001001
def eW:=a0 (au Fh.r _ rr) 2 1
def wM:Wq:=⟨Fh.gt eW,"_law_standing",KR 119,["_law_rows_here","_law_known","_law_day","_law_days","_law_heads","_law_k","_law_noted","_law_deed","_law_order","_law_offices","_law_found","_law_number","_law_good","_law_borne","_law_some"],3,hx 999 0x1a5fd0ba000d79201d100d00102000a007201d7000001a70400d07052b98103cb8109c02700704b00070b80081a0448105901362d0085703016077041705160500765058d104030⟩
abbrev m7:=au (wM.b [4] 9) _ rr
abbrev g9:=au (wM.b [12] 55) _ rr
def jU:=a0 (au wM.r _ rr) 3 12
def wN:=cx (wM.gt jU) 120 0 0x1450430500235002250005015000050505e4000504100030
abbrev lm:=au (wN.b [2,2] 17) _ rr
abbrev A7:=au (wN.b [2] 7) _ rr
def mU:=a0 (au wN.r _ rr) 3 3
def A8:=cx (wN.gt mU) 121 16 0x1005610054206d001067147d757d5420dd7054116031005d55037005d5040310160d3dd20000d10
abbrev KW:=au (A8.b [4] 12) _ rr
def F_law:=a0 (au A8.r _ rr) 1 7
end Lw
namespace DL
open PySem L2
theorem mV:∀n m d,n<=m->aT n d=true->aT m d=true
 |n,m,.non,_,_=>by simp
 |n,m,.bl _,_,_=>by simp
 |n,m,.int _,_,_=>by simp
 |n,m,.str _,_,_=>by simp
 |n,m,.ty _,_,h=>by cases n<;>simp at h
 |n,m,.dk _ _,_,h=>by simp at h
 |n,m,.dt _ _,_,h=>by simp at h
 |0,m,.tup _,_,h=>by simp at h
 |0,m,.lst _,_,h=>by simp at h
 |n+1,0,_,h,_=>by simp_all
 |n+1,m+1,.tup b,c,h=>by
  simp at h |-;exact λd a=>mV n m d N9 (h d a)
 |n+1,m+1,.lst b,c,h=>by
  simp at h |-;exact λd a=>mV n m d N9 (h d a)
theorem pX:∀a,(∀d∈a,gV d d=true)->jB a a=true
 |[],_=>by simp 
 |d::a,h=>by
  simp [h d mX];exact pX a λe b=>h e (mZ _ b)
theorem tK:∀n d,aT n d=true->gV d d=true
 |n,.non,_=>by simp
 |n,.bl _,_=>by simp
 |n,.int _,_=>by simp
 |n,.str _,_=>by simp
 |n,.ty _,h=>by cases n<;>simp at h
 |n,.dk _ _,h=>by simp at h
 |n,.dt _ _,h=>by simp at h
 |0,.tup _,h=>by simp at h
 |0,.lst _,h=>by simp at h
 |n+1,.tup a,h=>by
  simp at h;exact pX a λd b=>tK n d (h d b)
 |n+1,.lst a,h=>by
  simp at h;exact pX a λd b=>tK n d (h d b)
end DL
namespace DL
@[simp] abbrev sF (d:D):OB:=some (d,false)
@[simp] noncomputable abbrev lT (a:LD):OB:=some (.lst a,true)
@[simp] noncomputable abbrev sI (x:Int):OB:=some (.int x,false)
@[simp] noncomputable abbrev sS (x:PySem.Str):OB:=some (.str x,false)
@[simp] noncomputable abbrev sT (x:LD):OB:=some (.tup x,false)
@[simp] noncomputable abbrev sL (x:LD):OB:=some (.lst x,false)
@[simp] noncomputable abbrev sO (x:Bool):OB:=some (.bl x,false)
def cc(h:ZD r d b=true:=by decide +kernel):r=some (d,b):=yp h
def d3[Decidable p](h:p)(n:decide p=false:=by decide +kernel):q:=absurd h (of_decide_eq_false n)
end DL
namespace Lw
open PySem DL L2
def B3 (d:D)r:mr (d::r) 0=some d:=by simpa using jK (xs:=d::r) (j:=0) H9
def KY (d e:D)r:mr (d::e::r) 1=some e:=by simpa using jK (xs:=d::e::r) (j:=1) H9
def at2 (d e f:D)r:mr (d::e::f::r) 2=some f:=by simpa using jK (xs:=d::e::f::r) (j:=2) H9
noncomputable def cP (k:Str):Bool:=decide (k = "death") || decide (k = "lost") || decide (k = "found")
noncomputable def df (k:Str):Bool:=decide (k = "chosen") || decide (k = "heir") || decide (k = "leave") || decide (k = "paper") || decide (k = "like") || decide (k = "copy") || decide (k = "call")
structure DeedP (kind:Str)(aj:List D):Prop where
 flat:aU aj=true
 plain:aj.all (aT 5)=true
 three:cP kind=true->∃(day:Int)(p:Str),aj=[.int day,.str p]
 slg:df kind=true->∃(day:Int)(p:Str)(r:List D),aj=.int day::.str p::r
noncomputable def row (h:Int)(a:Str)(aj:LD):D:=.tup [.int h,.tup (.str a::aj)]
def tM (r:D):Prop:=∃h a aj,r=row h a aj/\DeedP a aj
def tM.flat (h:tM r):bi r=true:=by obtain⟨a,k,aj,rfl,b⟩:=h;simp[row,b.flat]
theorem br (h:∀d∈e,bi d=true):aU e=true:=by
 induction e with
 |nil=>rfl
 |cons d r M=>simp_all
def cw (b:LS):aU (b.map D.str)=true:=by
 induction b with
 |nil=>rfl
 |cons a l M=>simp[M]
def aO:D->Int
 |.tup (.int h::_)=>h
 |_=>0
noncomputable def kindOf:D->Str
 |.tup [_,.tup (.str k::_)]=>k
 |_=>("" : Str)
noncomputable def a6:D->Int
 |.tup [_,.tup (_::.int d::_)]=>d
 |_=>0
noncomputable def m8 (p:Str)(a:Int):LD->Bool
 |[.int d,.str q]=>decide (q=p) && decide (d<=a)
 |_=>false
def f8 (c:LS)(p:Str)(b:Int):D->Bool
 |.tup [_,.tup (.str a::aj)]=>decide (a∈c) && m8 p b aj
 |_=>false
def c8 (h)a aj:bq [row h a aj]=sS a:=ah rr (am (by simp[row,KY,B3]))
def ln (h:cP k=true):k = "death" \/ k = "lost" \/ k = "found":=by
 unfold cP at h;lia
def mW (h:df k=true):k = "chosen" \/ k = "heir" \/ k = "leave" \/ k = "paper" \/ k = "like" \/ k = "copy" \/ k = "call":=by
 unfold df at h;lia
def C3 (h:cP k=true):mK cE (.str k) (.str "person")=sI 1:=by
 rcases ln h with rfl|rfl|rfl<;>exact cc
def ba {h:Int}{k:Str}{aj:LD}{i:Nat}{d:D}(a:mK cE (.str k) (.str part)=sI i)(b:aj[i]? = some d):ay [row h k aj,.str part]=some (d,false):=by
 refine ah rr (am ?_);refine aL (.tup (.str k::aj)) (.int (1+i)) (by rfl) (aL _ _ rr (aL _ _ (a5 _ rr (c8 _ _ _)) rr a) q9) ?_;have M:=(vV b).1;have:mr (.str k::aj) (1+(i:Int))=some d:=by
  have:=jK (xs:=(.str k:D)::aj) (j:=i+1) M_;grind
 simp[this]
def tN{aj:LD}(a:cP k=true\/df k=true)(M:aj=.int d::r):bD [row h k aj]=sI d:=by
 subst M;refine ah rr (aq (bC (aL _ _ (a5 _ rr (c8 _ _ _)) rr (by
  rcases a with a|a
  .rcases ln a with rfl|rfl|rfl<;>exact cc
  .rcases mW a with rfl|rfl|rfl|rfl|rfl|rfl|rfl<;>exact cc))) (am (a5 _ rr (ba ((by
  rcases a with a|a
  .rcases ln a with rfl|rfl|rfl<;>exact cc
  .rcases mW a with rfl|rfl|rfl|rfl|rfl|rfl|rfl<;>exact cc:mK cE (.str k) (.str "day")=sI 0)) rr))))
def oC k(a:LS):MA (.str k) (a.map .str)=decide (k∈a):=by
 induction a with
 |nil=>simp[MA]
 |cons w a M=>
  grind[MA,cu]
def lY (a:LS):(a.map D.str).all iM=true:=by
 simp
def eK k(a:LS):Bz (.str k) (.tup (a.map .str))=sO (decide (k∈a)):=by
 simp only[Bz,gE,vJ,oC];rw[if_pos ⟨rr,by
  simp⟩]
def La (O:tM r)c(o:∀w∈c,cP w=true)(p)a:rg [r,.tup (c.map .str),.str p,.int a]=sO (f8 c p a r):=by
 obtain⟨h,b,aj,rfl,z⟩:=O;refine ah rr (am (bQ (aL _ _ (a5 _ rr (c8 _ _ _)) rr (eK _ c)) λD=>?_));have k:=o _ (HN D);obtain⟨d,q,rfl⟩:=z.three k;refine bQ (b1:=false) ?_ λy=>?_
 .exact aL _ _ (a5 _ rr (ba (C3 k) rr)) rr q9
 .exact aL _ _ (a5 _ rr (tN (.inl k) rr)) rr q9
def Lb a:wc a=a.zipIdx.map λx=>.tup [.int x.2,x.1]:=by
 unfold wc;apply ext_getElem?;intro i;simp;cases a[i]?<;>simp
noncomputable def af (a:LD)(b:Int):List (D×Nat):=a.zipIdx.filter λx=>decide (aO x.1<=b)
def lq (a:LD)(M:∀r∈a,tM r)(q:a.length<=1000)(b:Int):fJ [.tup a,.int b]=lT ((af a b).map λx=>.int x.2):=by
 have o:=d8 (fi:=JB (ak 0)) (nT:=2) (cap:=[1]) (tg:=HY [0,1]) (c:=aY (f2 yO (bF 1 0) (ak 2))) (fe:=ak 0) (ρ:=[sT a,sI b]) a.zipIdx (λx=>.tup [.int x.2,x.1]) (λx=>decide (aO x.1<=b)) (λx=>.int x.2)
  (by simp[Lb]) N8 λx hx=>by
   obtain⟨h,k,aj,e,z⟩:=M _ (List.fst_mem_of_mem_zipIdx hx);refine⟨_,rr,bC ?_,λz=>⟨false,by simp[cR]⟩⟩;simp[cR,e,row,B3,aO]
 exact ah rr (am o)
def lr (b:LD)(c:Int)(k:LS)(p:Str)(a:Int):List (D×Nat):=(af b c).filter λx=>f8 k p a x.1
def Fi (h:x∈lr d f e p day):d[x.2]? = some x.1/\f8 e p day x.1=true:=by
 obtain⟨a,b⟩:=vN h;exact⟨(List.mk_mem_zipIdx_iff_getElem? ).mp (vN a).1,b⟩
def bv{i:Nat}{r:D}(h:a[i]? = some r):mr a i=some r:=by
 obtain⟨M,e⟩:=vV h;rw[jK M,e]
def OS (b)c(k)p a:(lr b c k p a).length<=b.length:=by
 have o:=vM (λx=>decide (aO x.1<=c)) b.zipIdx;rw[length_zipIdx]at o;exact vR (vM (λx=>f8 k p a x.1) (af b c)) o
def yv (b:LD)(M:∀r∈b,tM r)(q:b.length<=1000)(k:Int)(o:LS)(z:∀w∈o,cP w=true)(p:Str)(a:Int):
  lR [.tup b,.int k,.tup (o.map .str),.str p,.int a]=lT ((lr b k o p a).map λx=>.int x.2):=by
 have F:=d8 (fi:=cY _) (nT:=1) (cap:=[2,3,4,0]) (tg:=eA 0) (c:=aY (fA rg (ao (f2 cI (ak 4) (ak 0)) (fV 1 (fV 2 (fV 3 aw)))))) (fe:=ak 0)
  (ρ:=[sT b,sF _,sT (o.map .str),sS p,sI a]) (af b k) _ _ (λx=>.int x.2)
  (by
   show(fA fJ (fV 0 (fV 1 aw)) _).bind _=_;rw[a5 _ rr (lq b M q k)];rfl) (by have:=vM (λx:D×Nat=>decide (aO x.1<=k)) b.zipIdx;rw[length_zipIdx]at this;exact vR this N9) λx hx=>by
   have O:=(List.mk_mem_zipIdx_iff_getElem? (x:=x.1) (i:=x.2)).mp (vN hx).1;refine⟨_,rr,bC (a5 _ ?_ (La (M _ (vL O)) o z p a)),λy=>⟨false,by simp[cR]⟩⟩;have K:=bv O;simp[cR,K]
 exact ah rr (am F)
def kA (x:D×Nat):List At:=[.i (a6 x.1),.i x.2]
def bX (a b:D×Nat):Bool:=decide (a6 a.1<a6 b.1\/(a6 a.1=a6 b.1/\(a.2:Int)<b.2))
def dA:D×Nat->List (D×Nat)->D×Nat
 |b,[]=>b
 |b,x::r=>if bX b x=true then dA x r else dA b r
def A9:List (D×Nat)->Option (D×Nat)
 |[]=>none
 |x::r=>some (dA x r)
def OT a b c d:aX [.i a,.i b] [.i c,.i d]=some (decide (a<c\/(a=c/\b<d))):=by
 rw[aX];by_cases h:a=c
 .simp_all[aX]
 simp_all
def yw a b:aX (kA a) (kA b)=some (bX a b):=OT _ _ _ _
def r6 (l:List (D×Nat)):cz (l.map kA)=true:=by
 simp[cz,yw]
theorem pY:∀r b,q8 (kA b,.int b.2) (r.map λx=>(kA x,D.int x.2))=.int (dA b r).2
 |[],b=>rr
 |x::r,b=>by
  rw[uY,q8,dA,yw];by_cases h:bX b x=true
  .rw[if_pos h,if_pos (by rw[h])];exact pY r x
  .rw[if_neg h,if_neg (by simpa using h)];exact pY r b
theorem lu:∀r b,dA b r∈b::r
 |[],b=>by simp[dA]
 |x::r,b=>by
  rw[dA];split
  .exact mZ _ (lu r x)
  .rcases vP (lu r b)with h|h
   .rw[h];exact mX
   simp_all
theorem i6 {a:Type}{f:D->Option D}{g h:a->D}:∀(l:List a),(∀x∈l,f (g x)=some (h x))->jt f (l.map g)=some (l.map h)
 |[],_=>rr
 |x::l,hx=>by
  rw[uY,jt,hx x mX,i6 l λy b=>hx y (mZ _ b)];rfl
theorem gh {a:Type}{g:a->D}{h:a->List At}:∀(l:List a),(∀x∈l,zU (g x)=some (h x))->dQ (l.map g)=some (l.map h)
 |[],_=>rr
 |x::l,hx=>by
  rw[uY,dQ,hx x mX,gh l λy b=>hx y (mZ _ b)];rfl
def cW:LS:=[("lost" : Str),"found"]
def iW:∀w∈cW,cP w=true:=by
 intro w a;rcases vP a with rfl|a
 .decide +kernel
 .rcases vP a with rfl|a
  .decide +kernel
  simp_all
def oD (c:LD)(k:Int)(p:Str)(a:Int):Bool:=match A9 (lr c k cW p a) with
 |none=>true
 |some b=>decide (kindOf b.1 = "found")
def nc (o:∀w∈e,cP w=true)(O:tM r)(U:f8 e p day r=true):∃h k d,r=row h k [.int d,.str p]/\cP k=true/\k∈e/\d<=day:=by
 obtain⟨h,a,aj,rfl,z⟩:=O;have M:(decide _ && m8 p _ _)=true:=U;rw[vC]at M;have b:=HN M.1;obtain⟨d,q,rfl⟩:=z.three (o _ b);have c:(decide _ && decide _)=true:=M.2;rw[vC]at c;have:=HN c.1;subst this;exact⟨h,a,d,rr,o _ b,b,HN c.2⟩
def Fj{i:Nat}(M:a[i]? = some (row h k [.int d,.str p]))(b:cP k=true):ie [.tup a,.int i]=sT [.int d,.int i]:=by
 refine ah rr (am (a5 _ (aC (a5 [row h k [.int d,.str p]] (by simp[bv M]) (tN (.inl b) rr)) rr) H8))
def cU:LS:=[("death" : Str)]
def jV:∀w∈cU,cP w=true:=by
 intro w a;rcases vP a with rfl|a
 .decide +kernel
 simp_all
def jj (b:LD)(c:Int)(p:Str)(a:Int):Bool:=(lr b c cU p a).isEmpty
def AA (b:LD)(O:∀r∈b,tM r)(k:b.length<=1000)(c:Int)(p:Str)a:rh [.tup b,.int c,.str p,.int a]=sO (jj b c p a):=by
 have M:=yv _ O k c _ jV p a;unfold jj;generalize lr _ _ _ p _=U at M |-;refine ah rr (am (aL (.int ((U.map λx=>D.int x.2).length:Nat)) _ ?_ rr ?_))
 .exact a5 _ (aC (a5 _ (by rfl) M) rr) jL
 .cases U<;>simp
  lia
noncomputable def cm:D->Str
 |.tup [_,.tup (_::_::.str p::_)]=>p
 |_=>("" : Str)
noncomputable def AB:LS:=[("chosen" : Str),"heir","leave","paper","like","copy","call"]
theorem tO k:df k=decide (k∈AB):=by
 simp[df,AB,Bool.or_assoc]
def C4:jM=.tup (AB.map .str):=rfl
def Lc (h:df k=true):mK cE (.str k) (.str "by")=sI 1:=by
 rcases mW h with rfl|rfl|rfl|rfl|rfl|rfl|rfl<;>exact cc
def gm (b:LD)(a:Int)(r:D):Bool:=(decide (aO r<=a) && df (kindOf r)) && (jj b a (cm r) (a6 r) && oD b a (cm r) (a6 r))
def lw {b:LD}{i:Nat}{h:Int}{a:Str}{aj:LD}(M:b[i]? = some (row h a aj))(c:Int):de [.tup b,.int c,.int i]=sO (decide (h<=c)):=by
 have O:=(vV M).1;have k:=bv M;refine ah rr (am ?_);have:=bQ (f1:=kF yO Jg (fI 0) (ak 2) (fA nM (fV 0 aw))) (f2:=f2 yO (f2 cI (f2 cI (ak 0) (ak 2)) (fI 0)) (ak 1)) (ρ:=[sT b,sI c,sI i]) (q:=decide (h<=c))
  (by
   refine(jw (z:=.int b.length) (b3:=false) (b4:=false) (p:=true) (q:=true) rr rr q9 q9 λy=>?_).trans rr;simp;lia) λy=>by simp[k,row,B3]
 exact this
def tP (q:LD)(U:∀r∈q,tM r)(K:q.length<=1000)(o:Int){i:Nat}{r:D}(a:q[i]? = some r):jP [.tup q,.int o,.int i]=sO (gm q o r):=by
 obtain⟨h,k,aj,rfl,V⟩:=U r (vL a);have W:=lw a o;have P:=bv a;have M:f2 cI (ak 0) (ak 2) [sT q,sI o,sI i,none,none]=some (row h k aj,false):=by simp[P]
 have R:(gK (kj (aY (fA de (fV 0 (fV 1 (fV 2 aw)))))) (aY (f2 fY (fA bq (ao (f2 cI (ak 0) (ak 2)) aw)) (fC jM)))) [sT q,sI o,sI i,none,none]=some (!decide (h<=o) || !df k):=by
  refine b7 (bw (bC (a5 _ rr W))) λv=>bC (aL (.str k) jM ((λF e=>a5 [row h k aj] (aC e rr) (c8 _ _ _)) _ M) rr ?_);rw[C4,tO];simp only[fY,gE,vJ,oC];rw[if_pos ⟨rr,lY AB⟩]
 have S:gm q o (row h k aj)=((decide (h<=o) && df k) && (jj q o (cm (row h k aj)) (a6 (row h k aj)) && oD q o (cm (row h k aj)) (a6 (row h k aj)))):=rr;cases w:(decide (h<=o) && df k) with
 |false=>
  rw[S,w];refine ah rr (aR (R.trans ?_) (am rr));rw[<-Bool.not_and,w];rfl
 |true=>
  rw[S,w];rw[vC]at w;obtain⟨z,p,c,rfl⟩:=V.slg w.2;rw[Bool.true_and];refine ah rr (aq (R.trans (by rw[w.1,w.2];rfl)) (dz (.str p) (a5 _ (aC M rr) (ba (i:=1) (Lc w.2) rr)) rr (dz (.int z) (a5 [row h k (.int z::.str p::c)] (aC (b:=false) (by simp[P]) rr) (tN (.inr w.2) rr)) rr (am ?_))));exact bQ (b1:=false) (a5 _ q9 (AA q U K o p z)) λv=>a5 _ q9 ((by
   have i:=yv q U K o cW iW p z;have c:=OS q o cW p z;have O:∀x∈lr q o cW p z,∃h k d,q[x.2]? = some (row h k [.int d,.str p])/\x.1=row h k [.int d,.str p]/\cP k=true:=λx hx=>by
    refine cX λv g'=>?_;obtain⟨l,f⟩:=Fi hx;obtain⟨h,k,d,e,m,v⟩:=nc iW (U _ (vL l)) f;apply g';exact⟨h,k,d,by rw[l,e],e,m⟩
   unfold oD;generalize j:lr q o cW p z=sel at i O c |-;have M:fA lR (fV 0 (fV 1 (ao (fA cS (ao (fS "lost") (ao (fS "found") aw))) (fV 2 (fV 3 aw))))) [sT q,sI o,sS p,sI z,none]=lT (sel.map λx=>.int x.2):=
    a5 _ (by rfl) i
   have a:aU (sel.map λx=>D.int x.2)=true:=br λd F=>by obtain⟨x,v,rfl⟩:=vO F;rfl
   cases sel with
   |nil=>exact ah rr (bo M a (aR (bC H9) (am rr)))
   |cons x r=>
    refine ah rr (bo M a (aq (bC N8) (am ?_)));refine cX λv g'=>?_;obtain⟨h,k,d,l,e,m⟩:=O (dA x r) (lu r x);apply g';have R:kindOf (dA x r).1=k:=by rw[e];rfl
    show _=some (D.bl (decide _),false);rw[R];refine aL (.str k) (.str "found") (a5 [row h k [.int d,.str p]] (aC (d:=row h k [.int d,.str p]) (b:=false) (aL (.tup q) (.int (dA x r).2) rr ?_ (by simp[bv l])) rr) (c8 _ _ _)) rr H9;have S:∀K:DL.Env,K[0]? = some (sT q)->jt (Ab [0] (fA ie (fV 1 (fV 0 aw))) K) ((x::r).map λx=>D.int x.2)=some ((x::r).map λx=>.tup [.int (a6 x.1),.int x.2]):=λK V=>
     i6 (x::r) λy W=>by
      obtain⟨h,k,d,l,e,m⟩:=O y W;have F:a6 y.1=d:=by rw[e];rfl
      rw[F];show(fA ie _ _).map _=_;rw[a5 [.tup q,.int y.2] (by simp[cR,V]) (Fj l m)];rfl
    have X:dQ ((x::r).map λx=>D.tup [.int (a6 x.1),.int x.2])=some ((x::r).map kA):=gh (x::r) λy v=>rr;have Z:((x::r).map kA).zip ((x::r).map λx=>D.int x.2)=(kA x,.int x.2)::r.map λx=>(kA x,D.int x.2):=by
     rw[zip_map'];rfl
    unfold DF SX;show((some _).bind _)=_;simp only[vJ];rw[S _ rr];simp only[vJ];rw[X];simp only[vJ];rw[if_pos (r6 _),Z];simp only[pY]:mO [.tup q,.int o,.str p,.int z]=sO (oD q o p z)))
inductive Cd:Str->List D->Prop
 |root (o r:Str) (m f:Int):Cd ("root" : Str) [.str o,.int m,.int f,.str r]
 |named (d:Int) (o p:Str):Cd ("named" : Str) [.int d,.str o,.str p]
 |chosen (d:Int) (b o p:Str) (s:Int):Cd ("chosen" : Str) [.int d,.str b,.str o,.str p,.int s]
 |heir (d:Int) (b o p:Str):Cd ("heir" : Str) [.int d,.str b,.str o,.str p]
 |three (k:Str) (hk:k = "death" \/ k = "lost" \/ k = "found") (d:Int) (p:Str):Cd k [.int d,.str p]
 |other (k:Str) (hk:k = "leave" \/ k = "paper" \/ k = "like" \/ k = "copy" \/ k = "call") (d:Int) (b:Str) (r:List D) (hf:aU r=true) (hp:r.all (aT 5)=true):Cd k (.int d::.str b::r)
def Cd.deed (h:Cd k r):DeedP k r:=by
 cases h with
 |root o q m f=>exact⟨rr,q9,d3,d3⟩
 |named d o p=>exact⟨rr,q9,d3,d3⟩
 |chosen d b o p s=>exact⟨rr,q9,d3,λz=>⟨d,b,_,rr⟩⟩
 |heir d b o p=>exact⟨rr,q9,d3,λz=>⟨d,b,_,rr⟩⟩
 |three k a d p=>exact⟨rr,q9,λz=>⟨d,p,rr⟩,λh=>by lia⟩
 |other k a d b r c w=>exact⟨by simp[c],by assumption,λh=>by rcases a with rfl|rfl|rfl|rfl|rfl<;>exact d3 h,λz=>⟨d,b,r,rr⟩⟩
def yx (r:D):Prop:=∃h k aj,r=row h k aj/\Cd k aj
def yx.rp (h:yx r):tM r:=by obtain⟨a,k,aj,rfl,d⟩:=h;exact⟨a,k,aj,rr,d.deed⟩
def aH (r:D):Bool:=decide (kindOf r = "root")
def Cd.day (h:Cd k r)(a:k ≠ "root"):∃d q,r=.int d::q:=by
 cases h with
 |root=>exact absurd rr a
 |named d=>exact⟨d,_,rr⟩
 |chosen d=>exact⟨d,_,rr⟩
 |heir d=>exact⟨d,_,rr⟩
 |three _ _ d=>exact⟨d,_,rr⟩
 |other _ _ d=>exact⟨d,_,rr⟩
def Cd.day_idx (h:Cd k r)(b:k ≠ "root"):mK cE (.str k) (.str "day")=sI 0:=by
 cases h with
 |root=>exact absurd rr b
 |named=>exact cc
 |chosen=>exact cc
 |heir=>exact cc
 |three _ a=>rcases a with rfl|rfl|rfl<;>exact cc
 |other _ a=>rcases a with rfl|rfl|rfl|rfl|rfl<;>exact cc
def aW (e:f d=some (.str a,bb))(h:decide (a=b)=x):aY (f2 dL f (fS b)) d=some x:=by simp_all
def vc (r:D):D:=if aH r=true then .non else .int (a6 r)
def i7 (g:yx r):bq [r]=sS (kindOf r):=by
 obtain⟨h,k,aj,rfl,z⟩:=g;exact c8 h k _
def tQ (g:yx r):bD [r]=some (vc r,false):=by
 obtain⟨h,k,aj,rfl,d⟩:=g;unfold vc;by_cases a:k = "root"
 .have:aH (row h k aj)=true:=qV a;rw[if_pos this];exact ah rr (aR (aW (a5 _ rr (c8 _ _ _)) (qV a)) (am rr))
 .have:aH (row h k aj)=false:=yK a;rw[if_neg (by rw[this];decide)];obtain⟨b,q,rfl⟩:=d.day a;exact ah rr (aq (aW (a5 _ rr (c8 _ _ _)) (yK a)) (am (a5 _ rr (ba (d.day_idx a) rr))))
def gI (a:LD):Prop:=a.length<=60/\∀r∈a,yx r
def gI.rp (g:gI d):∀r∈d,tM r:=λr M=>(g.2 r M).rp
def gI.le (g:gI d):d.length<=1000:=vR g.1 I9
def aG (h:x∈af d e):d[x.2]? = some x.1:=by
 obtain⟨a,z⟩:=vN h;exact List.mem_zipIdx_iff_getElem?.mp a
theorem b9 (a)b:(af a b).length<=a.length:=by
 have:=vM (λx=>decide (aO x.1<=b)) a.zipIdx;rw[length_zipIdx]at this;exact this
theorem ca (a)b:((af a b).map (·.2)).Nodup:=by
 exact List.Nodup.sublist (List.Sublist.map _ (filter_sublist)) (by simp[List.nodup_range'])
def du (a:LD)(b:Int):List (D×Nat):=(af a b).filter λx=>!aH x.1
def WY (a:LD)(b:Int):List (D×Nat):=dm (λx=>bK (kA x)) (du a b)
def C5 (h:bK (kA a)=bK (kA b)):a.2=b.2:=by
 have h:[a6 _,a.2]=[a6 _,b.2]:=h;lia
def oE (k:a∈af d e)(o:b∈af d e)(h:a.2=b.2):a=b:=by
 have c:=aG k;rw[h,aG o]at c;exact Prod.ext (vK c).symm h
def qH (g:gI s)(q:Int):fj [.tup s,.int q]=lT ((WY s q).map λx=>.int x.2):=by
 have t:=g.1;have n:=b9 s q;have O:∀x∈af s q,mr s (x.2:Int)=some x.1/\yx x.1:=λx hx=>⟨bv (aG hx),g.2 _ (vL (aG hx))⟩;have P:=d8 (fi:=cY (fA fJ (fV 0 (fV 1 aw)))) (nT:=1) (cap:=[0]) (tg:=eA 0) (c:=aY (f2 mF (fA bD (ao (f2 cI (ak 1) (ak 0)) aw)) (fC .non))) (fe:=ak 0) (ρ:=[sT s,sI q,none]) (af s q) (λx=>.int x.2) (λx=>!aH x.1) (λx=>.int x.2)
  (by
   show(fA fJ (fV 0 (fV 1 aw)) _).bind _=_;rw[a5 [.tup s,.int q] rr (lq s g.rp g.le q)];rfl) N9 λx hx=>by
   obtain⟨r,f⟩:=O x hx;refine⟨_,rr,bC (aL (vc x.1) .non (a5 [x.1] (by simp[cR,r]) (tQ f)) rr ?_),λv=>⟨false,by simp[cR]⟩⟩;unfold vc;split<;>simp_all
 have j:=P;have k:aU ((du s q).map λx=>D.int x.2)=true:=br λd w=>by obtain⟨x,v,rfl⟩:=vO w;rfl
 have o:(du s q).length<=60:=vR (vM _ _) M_;have M:∀x∈du s q,x∈af s q/\aH x.1=false:=λx hx=>by
  obtain⟨F,K⟩:=vN hx;lia
 have R:∀z:DL.Env,z[0]? = some (sT s)->jt (Ab [0] (fA ie (fV 1 (fV 0 aw))) z) ((du s q).map λx=>.int x.2)=some _:=λz S=>
  i6 (du s q) λx hx=>by
   obtain⟨F,K⟩:=M x hx;obtain⟨r,f⟩:=O x F;have w:=tQ f;unfold vc at w;rw[K,if_neg I9]at w;have l:ie [.tup s,.int x.2]=sT [.int (a6 x.1),.int x.2]:=ah rr (am (a5 [.int (a6 x.1),.int x.2] (aC (d:=.int (a6 x.1)) (b:=false) (a5 [x.1] (by simp[r]) w) rr) H8));show(fA ie _ _).map _=_;rw[a5 [.tup s,.int x.2] (by simp[cR,S]) l];rfl
 have V:dQ ((du s q).map λx=>D.tup [.int (a6 x.1),.int x.2])=some ((du s q).map kA):=gh _ λx v=>rr;have W:((du s q).map kA).zip ((du s q).map λx=>D.int x.2)=(du s q).map λx=>(kA x,D.int x.2):=by rw[zip_map']
 have m:((du s q).map (·.2)).Nodup:=List.Nodup.sublist (List.Sublist.map _ (filter_sublist)) (ca s q);refine ah rr (bo j k (am ?_));show(yf (ak 2) _ _)=_;unfold yf;show((some (D.lst ((du s q).map λx=>D.int x.2),false)).bind _)=_;simp only[vJ];rw[R _ rr];simp only[vJ];rw[V];simp only[vJ];rw[if_pos (by
  refine⟨by rw[vI];lia,r6 _,?_,?_⟩
  .unfold c6;rw[or_eq_true];left;simp[all_eq_true,kA]
  .rw[uP];exact List.Pairwise.map _ (λa b h e=>h (C5 e)) (pairwise_map.mp m))];unfold eF;rw[W];have i:((WY s q).map λx=>(kA x,D.int x.2))=dm (λp:List At×D=>bK p.1) ((du s q).map λx=>(kA x,D.int x.2)):=by
  refine hG _ (λx hx y X e=>?_) ((aA _ _).map _) ?_
  .obtain⟨a,r,rfl⟩:=vO hx;obtain⟨b,Z,rfl⟩:=vO X;rw[oE (M a r).1 (M b Z).1 (C5 e)]
  .exact pairwise_map.mpr (cZ _ _)
 rw[<-i,uP];rfl
structure Cl where
 o:Str
 p:Str
 s:Int
 u:Option Int
 n:Nat
def uD:OI->D
 |none=>.non
 |some x=>.int x
noncomputable def aK (c:Cl):D:=.tup [.str c.o,.str c.p,.int c.s,uD c.u,.int c.n]
def Fk u:bi (uD u)=true:=by cases u<;>rfl
theorem jy c:bi (aK c)=true:=by simp[aK,Fk]
def dB (a:List Cl):aU (a.map aK)=true:=by simp[br,jy]
noncomputable def dv (c:Cl)(a:Int):Bool:=decide (c.s<=a) && (match c.u with|none=>true|some x=>decide (a<x))
def at3 d e f g(r:LD):mr (d::e::f::g::r) 3=some g:=by simpa using jK (xs:=d::e::f::g::r) (j:=3) H9
def at4 d e f g h(r:LD):mr (d::e::f::g::h::r) 4=some h:=by simpa using jK (xs:=d::e::f::g::h::r) (j:=4) H9
def ZE c:cI (aK c) (.int 0)=sS c.o:=by rfl
def UJ c:cI (aK c) (.int 1)=sS c.p:=by rfl
def cl2 c:cI (aK c) (.int 2)=sI c.s:=by rfl
def cl4 c:cI (aK c) (.int 4)=sI c.n:=by rfl
def bc a(h:a.length<=100):cS a=sT a:=if_pos (cD N9)
def bR a(h:a.length<=100):eE a=lT a:=if_pos (cD N9)
def yy s a u:lS [.int a,.tup [.int s,uD u]]=sO (decide (s<=a) && (match u with|none=>true|some x=>decide (a<x))):=by
 refine ah rr (am (bQ (b1:=false) (by simp[B3]) λz=>?_));cases u with
 |none=>rfl
 |some x=>rfl
def tR (c)a:fm [aK c,.int a]=sO (dv c a):=
 ah rr (am (a5 _ (aP rr (aP (a5 _ (aC (aL _ _ rr rr (cl2 c)) (aC (aL _ _ rr rr ((by rfl:cI (aK c) (.int 3)=some (uD c.u,false)))) rr)) (bc _ H9)) rr)) (yy _ _ _)))
def kS (c:Cl):List At:=[.i c.s,.i c.n]
def ky:Cl->List Cl->Cl
 |b,[]=>b
 |b,x::r=>if aX (kS x) (kS b)=some true then ky x r else ky b r
def ng:Cl->List Cl->Cl
 |b,[]=>b
 |b,x::r=>if aX (kS b) (kS x)=some true then ng x r else ng b r
theorem tT:∀r b,qA (kS b,aK b) (r.map λx=>(kS x,aK x))=aK (ky b r)
 |[],b=>rr
 |x::r,b=>by
  rw[uY,qA,ky];split
  .exact tT r x
  .exact tT r b
theorem tU:∀r b,q8 (kS b,aK b) (r.map λx=>(kS x,aK x))=aK (ng b r)
 |[],b=>rr
 |x::r,b=>by
  rw[uY,q8,ng];split
  .exact tU r x
  .exact tU r b
def Fl (a:List Cl):cz (a.map kS)=true:=by
 simp[cz,kS,OT]
def tV (b:DL.Env)(a:List Cl):jt (GD ig b) (a.map aK)=some (a.map λc=>.tup [.int c.s,.int c.n]):=i6 a λc z=>by
 rfl
def qI (a:List Cl):dQ (a.map λc=>D.tup [.int c.s,.int c.n])=some (a.map kS):=gh a λc z=>rr
def Ld (e:f d=some (.lst ((b::r).map aK),bb)):DG f (GD ig) d=some (aK (ky b r),false):=by
 unfold DG SX;rw[e];dsimp;rw[tV,vJ,qI,vJ,if_pos (Fl _)];have:((b::r).map kS).zip ((b::r).map aK)=(kS b,aK b)::r.map λx=>(kS x,aK x):=by rw[zip_map'];rfl
 rw[this];show some _=_;rw[tT]
def T7 (e:f d=some (.lst ((b::r).map aK),g)):DF f (GD ig) d=some (aK (ng b r),false):=by
 unfold DF SX;rw[e];dsimp;rw[tV,vJ,qI,vJ,if_pos (Fl _)];have:((b::r).map kS).zip ((b::r).map aK)=(kS b,aK b)::r.map λx=>(kS x,aK x):=by rw[zip_map'];rfl
 rw[this];show some _=_;rw[tU]
def iA (a:Str)(b:Cl)(r:List Cl):Cl:=if a = "last" then ng b r else ky b r
theorem oF:∀r b,ky b r∈b::r
 |[],b=>by simp[ky]
 |x::r,b=>by
  rw[ky];split
  .exact mZ _ (oF r x)
  .rcases vP (oF r b)with h|h
   .rw[h];exact mX
   simp_all
theorem oG:∀r b,ng b r∈b::r
 |[],b=>by simp[ng]
 |x::r,b=>by
  rw[ng];split
  .exact mZ _ (oG r x)
  .rcases vP (oG r b)with h|h
   .rw[h];exact mX
   simp_all
def wO a(b)r:iA a b r∈b::r:=by
 grind[iA,oG,oF]
noncomputable def ve (b:List Cl)(o:Str)(a:Int):List Cl:=b.filter λc=>decide (c.o=o) && dv c a
def jW (a:List Cl):LS:=nX (ga (a.map (·.p)))
def WZ:List Cl->Nat
 |[]=>0
 |b::r=>(ky b r).n
def kn (a:Str):List Cl->D
 |[]=>.tup [.str "none"]
 |b::r=>if 1<(jW (b::r)).length/\a = "open" then .tup [.str "parted",.lst ((jW (b::r)).map .str)]
  else .tup [.str "one",.str (iA a b r).p,.int (WZ ((b::r).filter λc=>decide (c.p=(iA a b r).p)))]
def ko (b:List Cl)(o c:Str)(a:Int):D:=kn c (ve b o a)
theorem OV {z:Str}:ga (z::d)≠[]:=by
 have:∀(b:List _)M,z∈M->z∈b.foldl jJ M:=λb=>by
  induction b with
  |nil=>intro M h;exact h
  |cons a l O=>intro M h;exact O _ (nU.mpr (.inl h))
 grind[jJ,ga]
def oH a:fU (a.map .str)=some a:=by
 simp
def oJ (z:List Cl)(W:z.length<=60)(w:Int):lb [.lst (z.map aK),row h ("root" : Str) [.str o,.int m,.int f,.str rl],.int w]=some (ko z o rl w,false):=by
 let R:D:=row h ("root" : Str) [.str o,.int m,.int f,.str rl];have X:=d8 (fi:=cY (ak 0)) (nT:=1) (cap:=[2,1]) (tg:=eA 0) (c:=bJ (aY (f2 dL (bF 0 0) (fA ay (fV 2 (ao (fS "office") aw))))) (aY (fA fm (fV 0 (fV 1 aw))))) (fe:=ak 0)
  (ρ:=[sL (z.map aK),some (R,false),sI w,none,none,none,none]) z aK (λc=>decide (c.o=o) && dv c w) aK q9 N9 λc S=>by
   refine⟨_,rr,aD (bC (aL (.str c.o) (.str o) (aL (aK c) (.int 0) (by simp[cR]) rr (by rfl)) (a5 [R,.str "office"] (by simp[cR]) (ba (i:=0) cc rr)) H9)) λy=>bC (a5 [aK c,.int w] (by simp[cR]) (tR c w)),λy=>⟨false,by simp[cR]⟩⟩
 have d:gB (cY (ak 0)) 1 [2,1] (eA 0) _ (ak 0) _=lT ((ve z o w).map aK):=X;have a:(ve z o w).length<=60:=vR (vM _ _) W;unfold ko;generalize ve z o w=al at d a;have Z:∀F:DL.Env,F[3]? = some (lT (al.map aK))->f1 kL (gB (cY (ak 3)) 1 [] (eA 0) se (bF 0 1)) F=lT ((jW al).map .str):=λF s=>by
  have S:=gP (fi:=cY (ak 3)) (nT:=1) (cap:=[]) (tg:=eA 0) (fe:=bF 0 1) (ρ:=F) al aK (λc=>.str c.p) (by simp[s]) N9 λc S=>⟨_,rr,false,aL (aK c) (.int 1) (by simp[cR]) rr (UJ c)⟩;have t:al.map (λc=>D.str c.p)=(al.map (·.p)).map .str:=by rw[uP];rfl
  rw[t]at S;unfold f1;rw[S,vJ];show(fU ((al.map (·.p)).map .str)).bind _=_;rw[oH,vJ,if_pos (by rw[vI];lia)];rfl
 have i:aU ((jW al).map D.str)=true:=cw _;refine ah rr (bo (ds:=al.map aK) d (dB al) (bo (ds:=(jW al).map .str) (Z _ rr) i ?_));cases al with
 |nil=>rfl
 |cons b r=>
  have j:(jW (b::r)).length≠0:=by
   unfold jW;rw[(cf _).length_eq];grind[OV]
  refine aq (bC (by simp[j])) ?_;have M:∀F:DL.Env,F[1]? = some (some (R,false))->fA ay (fV 1 (ao (fS "rule") aw)) F=sS rl:=λF k=>a5 [R,.str "rule"] (by simp[k]) (ba (i:=3) cc rr);by_cases V:1<(jW (b::r)).length/\rl = "open"
  .have:kn rl (b::r)=.tup [.str "parted",.lst ((jW (b::r)).map .str)]:=by rw[kn,if_pos V]
   rw[this];exact aR (aD (p:=true) (q:=true) (bC N8) λy=>aW (bb:=false) (M _ rr) (qV V.2)) (am (a5 [.str "parted",.lst ((jW (b::r)).map .str)] H9 (bc _ H9)))
  .have:kn rl (b::r)=.tup [.str "one",.str (iA rl b r).p,.int (WZ ((b::r).filter λc=>decide (c.p=(iA rl b r).p)))]:=by rw[kn,if_neg V]
   rw[this];have l:=wO rl b r;let K:=iA rl b r;have g:=d8 (fi:=cY (ak 3)) (nT:=1) (cap:=[5]) (tg:=eA 0) (c:=aY (f2 dL (bF 0 1) (ak 1))) (fe:=ak 0) (ρ:=[sL (z.map aK),some (R,false),sI w,lT ((b::r).map aK),lT ((jW (b::r)).map .str),sS K.p,none]) (b::r) aK (λc=>decide (c.p=K.p)) aK H9 N9 λc S=>⟨_,rr,bC (aL (.str c.p) (.str K.p) (aL (aK c) (.int 1) (by simp[cR]) rr (UJ c)) (by simp[cR]) H9),λy=>⟨false,by simp[cR]⟩⟩;obtain⟨P,U,v⟩:∃P U,(b::r).filter (λc=>decide (c.p=K.p))=P::U:=by
    cases x:(b::r).filter (λc=>decide (c.p=K.p)) with
    |nil=>
     have:=filter_eq_nil_iff.mp x _ l;simp[K]at this
    |cons P U=>exact⟨P,U,rr⟩
   rw[v]at g |-;refine aq (by
    by_cases u:1<(jW (b::r)).length
    .exact aD (p:=true) (q:=false) (bC N8) λy=>aW (bb:=false) (M _ rr) (yK λe=>V ⟨u,e⟩)
    .exact aD (p:=false) (q:=false) (bC N8) H9) (dz (.str K.p) (a5 [.lst ((b::r).map aK),.str rl] (aP H9 (aC (M _ rr) rr)) ((by
     unfold iA;by_cases h:rl = "last"
     .rw[if_pos h];exact ah rr (aR (aW rr (qV h)) (am (aL _ _ (T7 rr) rr (UJ _))))
     .rw[if_neg h];exact ah rr (aq (aW rr (yK h)) (am (aL _ _ (Ld rr) rr (UJ _)))):mP [.lst ((b::r).map aK),.str rl]=sS (iA rl b r).p))) rr (dz (aK (ky P U)) (Ld (bb:=true) g) (jy _) (am (a5 [.str "one",.str K.p,.int (ky P U).n] (aP rr (aP rr (aC (aL (aK (ky P U)) (.int 4) rr rr (cl4 _)) rr))) (bc _ H9)))))
def wP:D->D
 |.tup a=>.tup (mE a none (some 2))
 |d=>d
def cL (b:List Cl)(o c p:Str)(a:Int):Bool:=gV (wP (ko b o c a)) (.tup [.str "one",.str p])
def Hj (c)M:∃a,kn c M=.tup a/\a.all (aT 5)=true:=by
 cases M with
 |nil=>exact⟨_,rr,q9⟩
 |cons b r=>
  rw[kn];split
  .simp
  .exact⟨_,rr,q9⟩
def wQ (h:d.all (aT 5)=true):aT 40 (.tup d)=true:=mV 6 40 _ I9 (by simpa only[aT]using h)
def yz b(k:b.length<=60)(p:Str)(a:Int):dN [.lst (b.map aK),row h ("root" : Str) [.str o,.int m,.int f,.str d],.str p,.int a]=sO (cL b o d p a):=by
 have q:=oJ b k (h:=h) (o:=o) (rl:=d) (m:=m) (f:=f) a;obtain⟨r,e,w⟩:=Hj d _;have M:ko b o d a=.tup r:=e;refine ah rr (am (aL (wP (ko b o d a)) (.tup [.str "one",.str p]) ?_ H8 ?_))
 .have c:=aQ (fa:=fV 0 (fV 1 (fV 3 aw))) (ρ:=[sF _,some (row h _ _,false),sS p,sF _]) rr q;rw[M]at c |-;unfold Dz;rw[show(List.map _ _++List.replicate 0 _:DL.Env)=[sF _,some _,sF _,sF _]from rr,c];rfl
 .unfold cL dL;rw[if_pos];rw[M];exact⟨wQ (by
  rw[all_eq_true]at w |-;exact λd a=>w d (List.mem_of_mem_drop (mem_of_mem_take a))),mV 6 40 _ I9 (by simpa only[aT]using q9)⟩
noncomputable def ai (j:Nat):D->Str
 |.tup [_,.tup (_::aj)]=>match aj[j]? with
  |some (.str s)=>s
  |_=>("" : Str)
 |_=>("" : Str)
noncomputable def eM (j:Nat):D->Int
 |.tup [_,.tup (_::aj)]=>match aj[j]? with
  |some (.int s)=>s
  |_=>0
 |_=>0
def wR {o r:Type}[DecidableEq o]{q:List o}{k:o}{x y:r}:∀ {c:List r},y∈cA q c k x->y=x\/y∈c:=by
 intro c h;unfold cA at h;split at h
 .rename_i M;clear M;induction q generalizing c with
  |nil=>simp at h
  |cons a q O=>
   cases c with
   |nil=>simp at h
   |cons b c=>
    grind[List.zipWith_cons_cons]
 grind
theorem wS:∀(l:List (dH×D))a y,y∈(l.foldl sQ a).2->y∈a.2\/∃p∈l,p.2=y
 |[],a,y,h=>.inl h
 |p::l,a,y,h=>by
  rcases wS l _ y h with h|⟨q,b,e⟩
  .rcases wR (show y∈cA _ _ _ _ from h)with h|h
   .exact .inr ⟨p,mX,h.symm⟩
   .exact .inl h
  .exact .inr ⟨q,mZ _ b,e⟩
theorem wT {a:Type}(f:a->Str)(g:a->D):∀(l:List a),hU (l.map λx=>D.tup [.str (f x),g x])=some (l.map λx=>(.inr (f x),g x))
 |[]=>rr
 |x::l=>by
  show((kP _).bind _)=_;rw[wT f g l];rfl
theorem lx {a:Type}[DecidableEq a]:∀ {b:List a}{c:LD}{k:a}{v:D},bj b c k=some v->v∈c
 |k'::b,d::o,k,v,h=>by
  unfold bj at h;split at h
  .cases h;exact mX
  .exact mZ _ (lx h)
 |[],_,_,_,h=>by simp[bj]at h
 |_::_,[],_,_,h=>by simp[bj]at h
noncomputable def oK (KL:List (D×Nat)):List (dH×D):=(KL.filter λx=>aH x.1).map λx=>(.inr (ai 0 x.1),x.1)
def dR (KL:List (D×Nat))(o:Str):Option D:=bj (cb (oK KL)).1 (cb (oK KL)).2 (.inr o)
def tW (g:yx r)(h:aH r=true):∃a o b,∃m f:Int,r=row a "root" [.str o,.int m,.int f,.str b]:=by
 obtain⟨a,k,aj,rfl,d⟩:=g;have c:=HN h;subst c;obtain⟨o,b,m,f,rfl⟩:=(by
  generalize a:("root" : Str)=k at d;cases d with
  |root o b m f=>exact⟨o,b,m,f,rr⟩
  |named=>exact d3 a
  |chosen=>exact d3 a
  |heir=>exact d3 a
  |three _ c=>rcases c with rfl|rfl|rfl<;>exact d3 a
  |other _ c=>rcases c with rfl|rfl|rfl|rfl|rfl<;>exact d3 a:∃o b,∃m f:Int,aj=[.str o,.int m,.int f,.str b]);exact⟨a,o,b,m,f,rr⟩
def dn (g:gI d)(hx:x∈af d e):mr d x.2=some x.1/\yx x.1:=⟨bv (aG hx),g.2 _ (vL (aG hx))⟩
def tX (g:gI h)(b:Int):iT [.tup h,.int b]=sF (.dk (cb (oK (af h b))).1 (cb (oK (af h b))).2):=by
 have F:=b9 h b;have O:=g.1;have k:=gP (fi:=cY _) (nT:=1) (cap:=[0]) (tg:=eA 0) (fe:=f2 cI (ak 1) (ak 0)) (ρ:=[sT h,sF _,none]) (af h b) _ Prod.fst
  (by
   show(fA fJ (fV 0 (fV 1 aw)) _).bind _=_;rw[a5 _ rr (lq h g.rp g.le b)];rfl) N9 λx hx=>by
   have q:=(dn g hx).1;exact⟨_,rr,false,by simp[cR,q]⟩
 have z:=d8 (fi:=cY (ak 2)) (nT:=1) (cap:=[]) (tg:=eA 0) (c:=aY (f2 dL (fA bq (fV 0 aw)) (fS "root"))) (fe:=fA cS (ao (fA ay (fV 0 (ao (fS "office") aw))) (fV 0 aw)))
  (ρ:=[sT h,sI b,lT ((af h b).map Prod.fst)]) (af h b) Prod.fst _ (λx=>.tup [.str (ai 0 x.1),x.1]) q9 N9 λx hx=>by
   have M:=(dn g hx).2;refine⟨_,rr,aW (a5 [x.1] rr (i7 M)) rr,λD=>⟨false,?_⟩⟩;refine cX λy g'=>?_;obtain⟨a,o,K,m,f,e⟩:=tW M D;apply g';rw[e];rfl
 refine ah rr (bo k (br λd w=>by
  obtain⟨x,hx,rfl⟩:=vO w;exact(dn g hx).2.rp.flat) (am (a5 _ (aC z rr) ?_)));show(hU _).map _=_;rw[wT _ Prod.fst];rfl
def pZ:D×Nat->List (D×Nat)->D×Nat
 |b,[]=>b
 |b,x::r=>if aX (kA x) (kA b)=some true then pZ x r else pZ b r
theorem y0:∀r b,qA (kA b,.int b.2) (r.map λx=>(kA x,D.int x.2))=.int (pZ b r).2
 |[],b=>rr
 |x::r,b=>by
  rw[uY,qA,pZ];split
  .exact y0 r x
  .exact y0 r b
def dW (KL:List (D×Nat))(p:Str)(a:Int)(i:Nat):Bool:=match KL.filter (λx=>f8 cU p a x.1) with
 |[]=>false
 |b::r=>decide ((pZ b r).2=i)
def Lg (g:gI s)(q:Int)(hx:x∈af s q)(e:x.1=row a ("death" : Str) [.int d,.str p]):ge [.tup s,.int q,.int x.2]=sO (dW (af s q) p d x.2):=by
 have S:=(dn g hx).1;have n:=(dn g hx).2;have m:=yv s g.rp g.le q cU jV p d;have O:ay [x.1,.str "person"]=sS p:=by rw[e];exact ba (i:=1) cc rr
 have U:bD [x.1]=sI d:=by rw[e];rfl
 have M:x∈lr s q cU p d:=mem_filter.mpr ⟨hx,by simp_all[f8,row,cU,m8]⟩;have j:dW (af s q) p d x.2=match lr s q cU p d with|[]=>false|b::r=>decide ((pZ b r).2=x.2):=rr
 have c:∀y∈lr s q cU p d,∃h k w,s[y.2]? = some _/\y.1=row h k [.int w,.str p]/\cP k=true:=λy F=>by
  obtain⟨f,l⟩:=Fi F;obtain⟨h,k,w,z,K,v⟩:=nc jV (g.rp _ (vL f)) l;exact⟨h,k,w,by rw[f,z],z,K⟩
 rw[j];cases R:lr s q cU p d with
 |nil=>rw[R]at M;cases M
 |cons b r=>
  rw[R]at m c;have V:∀P:DL.Env,P[0]? = some (sT s)->jt (Ab [0] (fA ie (fV 1 (fV 0 aw))) P) ((b::r).map λy=>.int y.2)=some ((b::r).map λy=>.tup [.int (a6 y.1),.int y.2]):=λP W=>
   i6 (b::r) λy F=>by
    obtain⟨h,k,w,f,z,K⟩:=c y F;show(fA ie _ _).map _=_;rw[a5 [.tup s,.int y.2] (by simp[cR,W]) (Fj f K),z];rfl
  have X:dQ ((b::r).map λy=>D.tup [.int (a6 y.1),.int y.2])=some ((b::r).map kA):=gh _ λy v=>rr;have Z:((b::r).map kA).zip ((b::r).map λy=>D.int y.2)=(kA b,D.int b.2)::r.map λy=>(kA y,D.int y.2):=by rw[zip_map'];rfl
  have o:aU ((b::r).map λy=>D.int y.2)=true:=br λd t=>by obtain⟨y,v,rfl⟩:=vO t;rfl
  refine ah rr (dz x.1 (by simp[S]) n.rp.flat (bo (a5 [.tup s,.int q,.tup (cU.map .str),.str p,.int d] (aP rr (aP rr (aP (a5 [.str "death"] rr (bc _ H9)) (aC (a5 [x.1,.str "person"] rr O) (aC (a5 [x.1] rr U) rr))))) m) o (am (aL (.int (pZ b r).2) (.int x.2) ?_ rr ?_))))
  .unfold DG SX;show((some _).bind _)=_;rw[vJ];dsimp only;rw[V _ rr,vJ,X,vJ,if_pos (r6 _),Z];simp_all[y0]
  simp_all<;>omega
abbrev KL:=List (D×Nat)
noncomputable def dX (K:KL)(p:Str)(a:Int):Bool:=(K.filter λx=>f8 cU p a x.1).isEmpty
def m9 (K:KL)(p:Str)(a:Int):Bool:=match A9 (K.filter λx=>f8 cW p a x.1) with
 |none=>true
 |some x=>decide (kindOf x.1 = "found")
def tY (K:KL)(r:D):Bool:=df (kindOf r) && (dX K (cm r) (a6 r) && m9 K (cm r) (a6 r))
def C6 (r:D):Str:=if kindOf r = "named" then ai 1 r else ai 2 r
noncomputable def qS:LS:=[("named" : Str),"chosen","heir"]
def bS (K:KL)(a:List Cl)(x:D×Nat):Bool:=
 if kindOf x.1 = "death" then dW K (ai 1 x.1) (a6 x.1) x.2
 else if kindOf x.1∈qS then match dR K (C6 x.1) with
  |none=>false
  |some v=>if kindOf x.1 = "named" then true else tY K x.1 && cL a (ai 0 v) (ai 3 v) (ai 1 x.1) (a6 x.1)
 else false
def y4 (b:LD)(c:Int)(p:Str)(a:Int):jj b c p a=dX (af b c) p a:=rfl
def T8 (b:LD)(c:Int)(p:Str)(a:Int):oD b c p a=m9 (af b c) p a:=rfl
def Hk (g:gI C)(D:Int)(R:List Cl)(q:R.length<=60)(hx:x∈af C D)(O:aH x.1=false):o7 [.tup C,.int D,.lst (R.map aK),.int x.2]=sO (bS (af C D) R x):=by
 obtain⟨Z,c⟩:=dn g hx;have J:aO x.1<=D:=HN (vN hx).2;have E:bi x.1=true:=c.rp.flat;have W:∀K:DL.Env,K[4]? = some (some (x.1,false))->fA bq (fV 4 aw) K=sS (kindOf x.1):=λK G=>a5 [x.1] (by simp[G]) (i7 c);have M:∀K:DL.Env,K[4]? = some (some (x.1,false))->aY (f2 fY (fA bq (fV 4 aw)) (fA cS (ao (fS "named") (ao (fS "chosen") (ao (fS "heir") aw))))) K=some (!decide (kindOf x.1∈qS)):=λK G=>
  bC (aL (.str (kindOf x.1)) (.tup (qS.map .str)) (W K G) (by rfl) (by
   simp only[fY,gE,vJ,oC];rw[if_pos ⟨rr,lY qS⟩]))
 by_cases P:kindOf x.1 = "death"
 .refine cX λY g'=>?_;obtain⟨a,k,aj,e,d⟩:=c;apply g';have S:k = "death":=by rw[e]at P;exact P
  subst S;obtain⟨L,p,rfl⟩:=d.deed.three s9;have V:bS (af C D) R x=dW (af C D) p L x.2:=by
   unfold bS;rw[if_pos P,e];rfl
  rw[V];exact ah rr (dz x.1 (by simp[Z]) E (aR (aW (bb:=false) (W _ rr) (qV P)) (am (a5 [.tup C,.int D,.int x.2] rr (Lg g D hx e)))))
 .by_cases F:kindOf x.1∈qS
  .have n:ay [x.1,.str "office"]=sS (C6 x.1):=by
    obtain⟨a,k,aj,e,d⟩:=c;rw[e]at F P O |-;replace F:k∈qS:=F;clear P O;cases d with
    |root=>exact d3 F
    |named d o p=>exact ba (i:=1) cc rr
    |chosen d b o p s=>exact ba (i:=2) cc rr
    |heir d b o p=>exact ba (i:=2) cc rr
    |three _ S=>rcases S with rfl|rfl|rfl<;>exact d3 F
    |other _ S=>rcases S with rfl|rfl|rfl|rfl|rfl<;>exact d3 F
   have h:∀K:DL.Env,K[0]? = some (sT C)->K[1]? = some (sI D)->K[4]? = some (some (x.1,false))->f2 WD (fA iT (fV 0 (fV 1 aw))) (fA ay (fV 4 (ao (fS "office") aw))) K=some ((dR (af C D) (C6 x.1)).getD .non,false):=λK r t u=>
    aL (.dk (cb (oK (af C D))).1 (cb (oK (af C D))).2) (.str (C6 x.1)) (a5 [.tup C,.int D] (by simp[r,t]) (tX g D)) (a5 [x.1,.str "office"] (by simp[u]) n) rr
   cases f:dR (af C D) (C6 x.1) with
   |none=>
    rw[f]at h;have V:bS (af C D) R x=false:=by unfold bS;rw[if_neg P,if_pos F,f]
    rw[V];exact ah rr (dz x.1 (by simp[Z]) E (aq (aW (bb:=false) (W _ rr) (yK P)) (aq (by rw[M _ rr,qV F];rfl) (dz .non (h _ rr rr rr) rr (aR (bC (aL .non .non rr rr q9)) (am rr))))))
   |some v=>
    rw[f]at h;obtain⟨y,z,w,A,B,H⟩:=(by
     rcases wS _ _ v (lx f) with f|⟨p,k,e⟩
     .cases f
     .obtain⟨x,hx,rfl⟩:=vO k;obtain⟨q,r⟩:=vN hx;rw[<-e];exact tW (dn g q).2 r:∃a M b,∃m f:Int,v=row a "root" [.str M,.int m,.int f,.str b]);have j:bi v=true:=by rw[H];rfl
    have l:Gw v .non=sO false:=by rw[H];simp[row]
    by_cases X:kindOf x.1 = "named"
    .have V:bS (af C D) R x=true:=by unfold bS;rw[if_neg P,if_pos F,f];dsimp only;rw[if_pos X]
     rw[V];exact ah rr (dz x.1 (by simp[Z]) E (aq (aW (bb:=false) (W _ rr) (yK P)) (aq (by rw[M _ rr,qV F];rfl) (dz v (h _ rr rr rr) j (aq (bC (aL v .non rr rr l)) (aR (aW (bb:=false) (W _ rr) (qV X)) (am rr)))))))
    .have V:bS (af C D) R x=(tY (af C D) x.1 && cL R (ai 0 v) (ai 3 v) (ai 1 x.1) (a6 x.1)):=by unfold bS;rw[if_neg P,if_pos F,f];dsimp only;rw[if_neg X]
     have m:ay [x.1,.str "by"]=sS (ai 1 x.1)/\bD [x.1]=sI (a6 x.1):=by
      refine⟨?_,by rw[tQ c];unfold vc;rw[O];rfl⟩;obtain⟨a,k,aj,e,d⟩:=c;rw[e]at F X |-;replace F:k∈qS:=F;cases d with
      |root=>exact d3 F
      |named=>exact absurd rr X
      |chosen d b o p s=>exact ba (i:=1) cc rr
      |heir d b o p=>exact ba (i:=1) cc rr
      |three _ S=>rcases S with rfl|rfl|rfl<;>exact d3 F
      |other _ S=>rcases S with rfl|rfl|rfl|rfl|rfl<;>exact d3 F
     have I:=tP C g.rp g.le D (aG hx);rw[(by
      unfold gm tY;rw[qV J];rfl:gm C D x.fst=tY (af C D) x.fst)]at I;have U:dN [.lst (R.map aK),v,.str (ai 1 x.1),.int (a6 x.1)]=sO (cL R (ai 0 v) (ai 3 v) (ai 1 x.1) (a6 x.1)):=by
      rw[H];exact yz R q _ _
     rw[V];refine ah rr (dz x.1 (by simp[Z]) E (aq (aW (bb:=false) (W _ rr) (yK P)) (aq (by rw[M _ rr,qV F];rfl) (dz v (h _ rr rr rr) j (aq (bC (aL v .non rr rr l)) (aq (aW (bb:=false) (W _ rr) (yK X)) (am ?_)))))));exact bQ (b1:=false) (a5 [.tup C,.int D,.int x.2] rr I) λY=>a5 [.lst (R.map aK),v,.str (ai 1 x.1),.int (a6 x.1)] (aP rr (aP rr (aC (a5 [x.1,.str "by"] rr m.1) (aC (a5 [x.1] rr m.2) rr)))) U
  .have V:bS (af C D) R x=false:=by unfold bS;rw[if_neg P,if_neg F]
   rw[V];exact ah rr (dz x.1 (by simp[Z]) E (aq (aW (bb:=false) (W _ rr) (yK P)) (aR (by rw[M _ rr,yK F];rfl) (am rr))))
def bT (M:LS)(p:Str)(a:Int)(c:Cl):List Cl:=
 if(!decide (c.o∈M) || (!decide (c.p=p) || !(dv c a || decide (a<c.s))))=true then [c]else if c.s<a then [⟨c.o,p,c.s,some a,c.n⟩]else []
noncomputable def a9 (b:List Cl)(M:LS)(p:Str)(a:Int):List Cl:=b.flatMap (bT M p a)
theorem dh M(p)a:∀b:List Cl,(a9 b M p a).length<=b.length
 |[]=>vT _
 |c::b=>by
  unfold a9;rw[flatMap_cons,uZ,vE];have k:=dh M p a b;have o:(bT M p a c).length<=1:=by
   unfold bT;split
   .simp
   .split<;>simp
  unfold a9 at k;lia
def tZ k(a:LS):fY (.str k) (.lst (a.map .str))=sO (!decide (k∈a)):=by
 simp only[fY,gE,vJ,oC];rw[if_pos ⟨rr,by
  simp⟩]
def AE (z:List Cl)(q:z.length<=60)(M:LS)(p:Str)(w:Int):yq [.lst (z.map aK),.lst (M.map .str),.str p,.int w]=lT ((a9 z M p w).map aK):=by
 obtain⟨S,e,f,rfl⟩:=gH (tg:=eA 5) (g:=Ao) (λj P=>∃f:OB,P=[sL (z.map aK),sL (M.map .str),sS p,sI w,lT ((a9 (z.take j) M p w).map aK),f]) (z.map aK)
  [sL (z.map aK),sL (M.map .str),sS p,sI w,lT [],none] ⟨none,rr⟩ (by
   rintro j d P R ⟨f,rfl⟩;rw[vA]at R;obtain⟨c,V,rfl⟩:=oY R;have h:a9 (z.take (j+1)) M p w=a9 (z.take j) M p w++bT M p w c:=by
    simp_all[a9,take_add_one]
   have r:(a9 (z.take j) M p w).length<=60:=vR (dh M p w _) (by rw[length_take];lia);let U:DL.Env:=[sL (z.map aK),sL (M.map .str),sS p,sI w,lT ((a9 (z.take j) M p w).map aK),some (aK c,false)];have i:bF 5 0 U=sS c.o:=aL (aK c) (.int 0) rr rr (by rfl);have k:bF 5 1 U=sS c.p:=aL (aK c) (.int 1) rr rr (UJ c);have F:bF 5 2 U=sI c.s:=aL (aK c) (.int 2) rr rr (by rfl);have l:bF 5 4 U=sI c.n:=aL (aK c) (.int 4) rr rr (by simp[aK,at4]);have O:gK (aY (f2 fY (bF 5 0) (ak 1))) (gK (aY (f2 lD (bF 5 1) (ak 2))) (kj (gK (aY (fA fm (fV 5 (fV 3 aw)))) (aY (f2 NF (bF 5 2) (ak 3)))))) U=some (!decide (c.o∈M) || (!decide (c.p=p) || !(dv c w || decide (w<c.s)))):=
    b7 (bC (aL (.str c.o) (.lst (M.map .str)) i rr (by
     simp only[fY,gE,vJ,oC];rw[if_pos ⟨rr,lY M⟩]))) λy=>b7 (bC (aL (.str c.p) (.str p) k rr H9)) λy=>bw (b7 (bC (a5 [aK c,.int w] rr (tR c w))) λy=>bC (aL (.int c.s) (.int w) F rr H9))
   by_cases D:(!decide (c.o∈M) || (!decide (c.p=p) || !(dv c w || decide (w<c.s))))=true
   .have a:bT M p w c=[c]:=by unfold bT;rw[if_pos D]
    rw[D]at O;refine⟨_,_,rr,.inl (cV O (dU (ds:=(a9 (z.take j) M p w).map aK) (d:=aK c) (b:=false) rr rr (jy c) (be N8))),some (aK c,false),?_⟩;rw[h,a,uW];rfl
   .rw[not_eq_true]at D;rw[D]at O;by_cases K:c.s<w
    .have a:bT M p w c=[⟨c.o,p,c.s,some w,c.n⟩]:=by unfold bT;rw[if_neg (by rw[D];decide),if_pos K]
     refine⟨_,_,rr,.inl (bP O (cV (bC (aL (.int c.s) (.int w) F rr (by simp[K]))) (dU (ds:=(a9 (z.take j) M p w).map aK) (d:=aK ⟨c.o,p,c.s,some w,c.n⟩) (b:=false) rr (a5 [.str c.o,.str p,.int c.s,.int w,.int c.n] (aC i (aP rr (aC F (aP rr (aC l rr))))) (bc _ H9)) (jy _) (be N8)))),some (aK c,false),?_⟩;rw[h,a,uW];rfl
    .have a:bT M p w c=[]:=by unfold bT;rw[if_neg (by rw[D];decide),if_neg K]
     refine⟨_,_,rr,.inl (bP O (bP (bC (aL (.int c.s) (.int w) F rr N8)) rr)),some (aK c,false),?_⟩;rw[h,a,uQ];rfl)
 have m:fX (eA 5) Ao (z.map aK) [sL (z.map aK),sL (M.map .str),sS p,sI w,lT [],none]=some (.nx [sL (z.map aK),sL (M.map .str),sS p,sI w,lT ((a9 z M p w).map aK),f]):=by
  simp_all
 exact ah rr (bo (ds:=[]) H8 rr (aJ (lO (ds:=z.map aK) (by simp[iI]) m) (gy rr)))
def Hl (c:List Cl)(M:c.length<=60)(n:Nat):ij [.lst (c.map aK),row a ("chosen" : Str) [.int d,.str b,.str o,.str p,.int s],.int n]=lT ((a9 c [o] b s++[(⟨o,p,s,none,n⟩:Cl)]).map aK):=by
 let r:D:=row a ("chosen" : Str) [.int d,.str b,.str o,.str p,.int s];have w:=dh [o] b s c;refine ah rr (dz (.int s) (a5 _ rr (ba (i:=4) cc rr)) rr (bo (a5 _ (aP rr (aC (a5 [.str o] (aC (a5 _ rr (ba (i:=2) cc rr)) rr) (bR _ H9)) (aC (a5 _ rr (ba (i:=1) cc rr)) rr))) (AE c M [o] b s)) (dB _) (am ?_)));rw[uW];exact if_pos (cD (by rw[vI,length_singleton];lia))
noncomputable def oM (a:List LK)(b:LD)(o p:Str):Option Str:=match bj a b [.inr o,.inr p] with
 |some (.str h)=>some h
 |_=>none
def cC (K:KL)(b:List LK)(c:LD)(p:Str)(a:Int)(n:Nat)(o:Str):List Cl:=match oM b c o p with
 |some h=>if dX K h a=true then [⟨o,h,a,none,n⟩]else []
 |none=>[]
def cF (b:List Cl)(p:Str)(a:Int):LS:=nX (ga ((b.filter λc=>decide (c.p=p) && dv c a).map (·.o)))
def qT (K:KL)(b:List Cl)(c:List LK)(k:LD)(p:Str)(a:Int)(n:Nat):List Cl:=(cF b p a).flatMap (cC K c k p a n)
def jX (K)b c(p)a(n)o:(cC K b c p a n o).length<=1:=by
 unfold cC;split
 .split<;>simp
 .simp
theorem oN {b M:Type}(f:b->List M)(h:∀a,(f a).length<=1):∀l:List b,(l.flatMap f).length<=l.length
 |[]=>vT _
 |a::l=>by
  rw[flatMap_cons,uZ,vE];have:=h a;have:=oN f h l;lia
def AF b(p)a:(cF b p a).length<=b.length:=by
 unfold cF;rw[(cf _).length_eq];refine vR (nV _) ?_;rw[vI];exact vM _ _
def y6 (g:gI L)(R:Int)(P:List Cl)(K:P.length<=60)(V:List LK)(S:LD)(y:∀v∈S,∃s,v=.str s)(hx:x∈af L R)(e:x.1=row a ("death" : Str) [.int d,.str p]):
  lf [.tup L,.int R,.lst (P.map aK),.dt V S,.int x.2]=lT ((qT (af L R) P V S p d x.2).map aK):=by
 have N:=(dn g hx).1;have z:ay [x.1,.str "person"]=sS p:=by rw[e];exact ba (i:=1) cc rr
 have A:bD [x.1]=sI d:=by rw[e];rfl
 have B:=AF P p d;have C:∀(o:Str)(l:List Cl)(M:OB),l.length<=60->jQ _=some (.nx [sT L,sI R,sL (P.map aK),sF (.dt V S),sI x.2,sS p,sI d,lT ((l++cC (af L R) V S p d x.2 o).map aK),sS o,some ((bj V S [.inr o,.inr p]).getD .non,false)]):=λo l M Q=>by
  have f:Ko (ak 3) (fV 8 (fV 5 aw)) [sT L,sI R,sL (P.map aK),sF (.dt V S),sI x.2,sS p,sI d,lT (l.map aK),sS o,M]=some ((bj V S [.inr o,.inr p]).getD .non,false):=by
   rfl
  cases O:bj V S [.inr o,.inr p] with
  |none=>
   rw[O]at f;have X:cC (af L R) V S p d x.2 o=[]:=by unfold cC oM;rw[O]
   rw[X,uQ];exact dz .non f rr (bP (aD (p:=false) (q:=false) (bC q9) H9) rr)
  |some v=>
   obtain⟨h,rfl⟩:=y v (lx O);rw[O]at f;have t:=AA L g.rp g.le R h d;rw[y4]at t;have U:∀W:DL.Env,W[0]? = some (sT L)->W[1]? = some (sI R)->W[6]? = some (sI d)->W[9]? = some (sS h)->bJ (aY (f2 mF (ak 9) (fC .non))) (aY (fA rh (fV 0 (fV 1 (fV 9 (fV 6 aw)))))) W=some (true && dX (af L R) h d):=λW E F m u=>
    aD (bC (by simp[u])) λ_=>bC (a5 [.tup L,.int R,.str h,.int d] (by simp[E,F,m,u]) t)
   cases w:dX (af L R) h d with
   |false=>
    have X:cC (af L R) V S p d x.2 o=[]:=by simp_all[cC,oM]
    rw[X,uQ];exact dz (.str h) f rr (bP (by rw[U _ rr rr rr rr,w];rfl) rr)
   |true=>
    have X:cC (af L R) V S p d x.2 o=[⟨o,h,d,none,x.2⟩]:=by simp_all[cC,oM]
    rw[X,uW];exact dz (.str h) f rr (cV (by rw[U _ rr rr rr rr,w];rfl) (dU (ds:=l.map aK) (d:=aK ⟨o,h,d,none,x.2⟩) (b:=false) rr (a5 [.str o,.str h,.int d,.non,.int x.2] rr (bc _ H9)) rr (be N8)))
 obtain⟨Y,G,k,M,rfl⟩:=gH (tg:=eA 8) (g:=jQ) (λj W=>∃k M:OB,W=[sT L,sI R,sL (P.map aK),sF (.dt V S),sI x.2,sS p,sI d,lT ((((cF P p d).take j).flatMap (cC (af L R) V S p d x.2)).map aK),k,M]) ((cF P p d).map .str)
  [sT L,sI R,sL (P.map aK),sF (.dt V S),sI x.2,sS p,sI d,lT [],none,none] ⟨none,none,rr⟩ (by
   rintro j dd W T ⟨k,M,rfl⟩;rw[vA]at T;obtain⟨o,H,rfl⟩:=oY T;have Q:(((cF P p d).take j).flatMap (cC (af L R) V S p d x.2)).length<=60:=vR (oN _ (jX _ _ _ _ _ _) _) (by rw[length_take];lia);refine⟨_,_,rr,.inl (C o _ M Q),sS o,some ((bj V S [.inr o,.inr p]).getD .non,false),?_⟩;rw[take_add_one,H,Option.toList_some,List.flatMap_append,flatMap_cons,List.flatMap_nil,uQ])
 have I:fX (eA 8) jQ ((cF P p d).map .str) [sT L,sI R,sL (P.map aK),sF (.dt V S),sI x.2,sS p,sI d,lT [],none,none]=some (.nx [sT L,sI R,sL (P.map aK),sF (.dt V S),sI x.2,sS p,sI d,lT ((qT (af L R) P V S p d x.2).map aK),k,M]):=by
  rw[G];have:(cF P p d).take ((cF P p d).map D.str).length=cF P p d:=H9
  rw[this];rfl
 have n:∀W:DL.Env,W[2]? = some (sL (P.map aK))->W[5]? = some (sS p)->W[6]? = some (sI d)->cY (f1 kL (gB (cY (ak 2)) 1 [5,6] (eA 0) (bJ (aY (f2 dL (bF 0 1) (ak 1))) (aY (fA fm (fV 0 (fV 2 aw))))) (bF 0 0))) W=some ((cF P p d).map .str):=λW q2 J m=>by
  have Z:=d8 (fi:=cY (ak 2)) (nT:=1) (cap:=[5,6]) (tg:=eA 0) (c:=bJ (aY (f2 dL (bF 0 1) (ak 1))) (aY (fA fm (fV 0 (fV 2 aw))))) (fe:=bF 0 0) (ρ:=W) P aK (λc=>decide (c.p=p) && dv c d) (λc=>.str c.o) (by simp[q2]) N9 λc Z=>
   ⟨_,rr,aD (bC (aL (.str c.p) (.str p) (aL (aK c) (.int 1) (by simp[cR]) rr (UJ c)) (by simp[cR,J]) H9)) λ_=>bC (a5 [aK c,.int d] (by simp[cR,m]) (tR c d)),λ_=>⟨false,aL (aK c) (.int 0) (by simp[cR]) rr (by simp[aK,B3])⟩⟩
  have e2:(P.filter λc=>decide (c.p=p) && dv c d).map (λc=>D.str c.o)=((P.filter λc=>decide (c.p=p) && dv c d).map (·.o)).map .str:=by rw[uP];rfl
  rw[e2]at Z;show(f1 kL _ W).bind _=_;unfold f1;rw[Z,vJ];have r:((P.filter λc=>decide (c.p=p) && dv c d).map (·.o)).length<64:=by rw[vI];exact lt_of_le_of_lt (vM _ _) N9
  show((fU _).bind _).bind _=_;rw[oH,vJ,if_pos r];rfl
 refine ah rr (dz (.str p) (a5 [x.1,.str "person"] (by simp[N]) z) rr (dz (.int d) (a5 [x.1] (by simp[N]) A) rr (bo (ds:=[]) H8 rr (aJ (ρ':=[sT L,sI R,sL (P.map aK),sF (.dt V S),sI x.2,sS p,sI d,lT ((qT (af L R) P V S p d x.2).map aK),k,M]) ?_ (gy rr)))));exact lO (n _ rr rr rr) I
def Lh (g:gI j)(q:Int)(k:List Cl)(M:k.length<=60)(w:List LK)(r:LD)(b:∀v∈r,∃s,v=.str s)(hx:x∈af j q)(e:x.1=row a ("death" : Str) [.int d,.str p]):
  jf [.tup j,.int q,.lst (k.map aK),.dt w r,.int x.2]=lT ((a9 k (k.map Cl.o) p d++qT (af j q) k w r p d x.2).map aK):=by
 have z:=(dn g hx).1;have O:ay [x.1,.str "person"]=sS p:=by rw[e];exact ba (i:=1) cc rr
 have U:bD [x.1]=sI d:=by rw[e];rfl
 have F:=gP (fi:=cY (ak 2)) (nT:=1) (cap:=[]) (tg:=eA 0) (fe:=bF 0 0) (ρ:=[sT j,sI q,sL (k.map aK),sF (.dt w r),sI x.2,none,none]) k aK _ q9 N9 λc P=>⟨_,rr,false,aL (aK c) (.int 0) (by simp[cR]) rr (ZE c)⟩;have K:k.map (λc=>D.str c.o)=(k.map Cl.o).map .str:=by rw[uP];rfl
 rw[K]at F;have f:=dh (k.map Cl.o) p d k;have h:(qT (af j q) k w r p d x.2).length<=60:=vR (oN _ (jX _ _ _ _ _ _) _) (vR (AF k p d) M);refine ah rr (bo F (cw _) (bo (a5 _ (aP rr (aP rr (aP (a5 _ (by simp[z]) O) (aP (a5 [x.1] (by simp[z]) U) rr)))) (AE k M _ p d)) (dB _) (am ?_)));refine fH rr (a5 _ rr (y6 g q k M w r b hx e)) ?_;rw[uW];exact if_pos (cD (by grind))
abbrev ME:=List Cl×List LK×LD
def bL (K:KL)(a:ME)(x:D×Nat):ME:=
 if bS K a.1 x=true then
  if kindOf x.1 = "named" then (a.1++[⟨ai 1 x.1,ai 2 x.1,a6 x.1,none,x.2⟩],a.2)
  else if kindOf x.1 = "chosen" then (a9 a.1 [ai 2 x.1] (ai 1 x.1) (eM 4 x.1)++[⟨ai 2 x.1,ai 3 x.1,eM 4 x.1,none,x.2⟩],a.2)
  else if kindOf x.1 = "heir" then (a.1,cK a.2.1 [.inr (ai 2 x.1),.inr (ai 1 x.1)],cA a.2.1 a.2.2 [.inr (ai 2 x.1),.inr (ai 1 x.1)] (.str (ai 3 x.1)))
  else (a9 a.1 (a.1.map Cl.o) (ai 1 x.1) (a6 x.1)++qT K a.1 a.2.1 a.2.2 (ai 1 x.1) (a6 x.1) x.2,a.2)
 else a
def bp (K:KL):KL:=dm (λx=>bK (kA x)) (K.filter λx=>!aH x.1)
noncomputable def gQ (K:KL)(l:KL):ME:=l.foldl (bL K) ([],[],[])
noncomputable def kC (c:Cl):List At:=[.s c.o,.i c.s,.i c.n]
def aN (K:KL):List Cl:=dm (λc=>bK (kC c)) (gQ K (bp K)).1
noncomputable def OX:LK->Str
 |[_,.inr p]=>p
 |_=>("" : Str)
noncomputable def T9 (a:LS)(b:List LK):Nat:=(b.filter λk=>decide (OX k∉a)).length
structure Bv (K l:KL)(dd:List Str)(st:ME):Prop where
 len:st.1.length+T9 dd st.2.1<=l.length
 ded:∀q∈dd,∃y∈l,dW K q (a6 y.1) y.2=true
 nod:(st.1.map λc=>(c.o,c.n)).Nodup
 num:∀c∈st.1,c.n∈l.map (·.2)
 hs:∀v∈st.2.2,∃s,v=D.str s
 hk:st.2.1.length<=l.length
def Fm (h:f8 e p d r=true):a6 r<=d/\∀b,a6 r<=b->f8 e p b r=true:=by
 unfold f8 at h;split at h
 .rw[vC]at h;obtain⟨c,a⟩:=h;unfold m8 at a;split at a
  .rw[vC]at a;refine⟨HN a.2,λb k=>?_⟩;unfold f8;rw[vC];refine⟨c,?_⟩;unfold m8;rw[vC];exact⟨a.1,qV k⟩
  simp_all
 simp_all
theorem oP:∀(r:KL)b,pZ b r∈b::r/\∀y∈b::r,bX y (pZ b r)=false
 |[],b=>by simp_all[pZ,bX]
 |x::r,b=>by
  rw[pZ,yw];by_cases h:bX x b=true
  .rw[if_pos (by rw[h])];obtain⟨c,k⟩:=oP r x;refine⟨mZ _ c,λy a=>?_⟩;rcases vP a with rfl|a
   .grind[mX,bX]
   .exact k y a
  .rw[if_neg (by simpa using h)];obtain⟨c,k⟩:=oP r b;refine⟨?_,λy a=>?_⟩
   .grind
   .grind[mX,bX]
set_option tactic.hygienic true in
def ua (h:dW K p d i=true):∃m∈K,f8 cU p d m.1=true/\m.2=i/\∀y∈K,f8 cU p d y.1=true->bX y m=false:=by
 unfold dW at h;split at h
 .cases h
 .rename_i b r e;obtain⟨a,c⟩:=oP r b;grind
theorem C7 (k:dW K p g e=true)(o:dW K p h f=true):e=f:=by
 obtain⟨q,U,M,a,b⟩:=ua k;obtain⟨r,w,O,z,D⟩:=ua o;have c:=Fm M;have d:=Fm O;grind[bX]
theorem AG {a:Type}[DecidableEq a]:∀ {b:List a}{c:LD}{k:a}{v:D},bj b c k=some v->k∈b
 |k'::b,d::o,k,v,h=>by
  unfold bj at h;split at h
  .simp_all
  .exact mZ _ (AG h)
 |[],_,_,_,h=>by simp[bj]at h
 |_::_,[],_,_,h=>by simp[bj]at h
theorem ub p b(c:p∉b):∀a:List LK,T9 b a=T9 (p::b) a+(a.filter λk=>decide (OX k=p)).length
 |[]=>rr
 |k::a=>by
  have M:=ub p b c a;grind[T9]
theorem lZ (M)p a:∀b:List Cl,((a9 b M p a).map λc=>(c.o,c.n)).Sublist (b.map λc=>(c.o,c.n))
 |[]=>List.Sublist.slnil
 |c::b=>by
  have O:=lZ M p a b;unfold a9 at O |-;rw[flatMap_cons,uW];have:((bT M p a c).map λc=>(c.o,c.n))=[(c.o,c.n)]\/((bT M p a c).map λc=>(c.o,c.n))=[]:=by
   unfold bT;split
   .exact .inl rr
   .split
    .exact .inl rr
    .exact .inr rr
  rcases this with h|h
  .rw[h];exact O.cons₂ _
  .rw[h];exact O.cons _
def ma (h:c∈a9 d O p day):∃M∈d,M.o=c.o/\M.n=c.n:=by
 have:=(lZ _ p _ d).subset (uS ⟨c,h,rr⟩);simp_all
theorem jz:∀(a M:LS),M.Nodup->(a.foldl jJ M).Nodup
 |[],_,h=>h
 |s::a,M,h=>jz a _ (sn h s)
def nj b(p)a:(cF b p a).Nodup:=(cf _).nodup_iff.mpr (jz _ [] nodup_nil)
theorem AH (K)b k(p)a n:∀os:LS,((os.flatMap (cC K b k p a n)).map λc=>(c.o,c.n)).Sublist (os.map λo=>(o,n))
 |[]=>List.Sublist.slnil
 |o::os=>by
  have M:=AH K b k p a n os;rw[flatMap_cons,uW];have:((cC K b k p a n o).map λc=>(c.o,c.n))=[(o,n)]\/((cC K b k p a n o).map λc=>(c.o,c.n))=[]:=by
   unfold cC;split
   .split
    .exact .inl rr
    .exact .inr rr
   .exact .inr rr
  rcases this with h|h
  .rw[h];exact M.cons₂ _
  .rw[h];exact M.cons _
theorem wU {a:Type}[DecidableEq a]:∀(l m:List a),l.Nodup->(∀x∈l,x∈m)->l.length<=m.length
 |[],_,_,_=>uN _
 |x::l,m,h,s=>by
  rw[nodup_cons]at h;have:=wU l _ h.2 λy c=>(List.mem_erase_of_ne (b:=x) (λe=>h.1 (by rw[<-e];exact c))).mpr (s y (mZ _ c));grind
theorem wV {b M:Type}(f:b->List M)q(h:∀a,(f a).length<=1/\(q a=false->f a=[])):∀l:List b,(l.flatMap f).length<=(l.filter q).length
 |[]=>vT _
 |a::l=>by
  have O:=wV f q h l;grind
def OY (K:KL)w c(q:LD)p(r)n:(qT K w c q p r n).length<=(c.filter λk=>decide (OX k=p)).length:=by
 refine vR (wV _ (λo=>(bj c q [.inr o,.inr p]).isSome) (λo=>⟨jX _ _ _ _ _ _ _,λh=>?_⟩) _) ?_
 .simp_all[cC,oM]
 .have M:(((cF w p r).filter λo=>(bj c q [.inr o,.inr p]).isSome).map λo=>([.inr o,.inr p]:LK)).Nodup:=List.Pairwise.map _ (λa b O e=>O (by injection e with e _;injection e)) ((nj w p _).filter _);have:=wU _ (c.filter λk=>decide (OX k=p)) M λk z=>by
   obtain⟨o,U,rfl⟩:=vO z;obtain⟨v,q⟩:=uU (vN U).2;exact mem_filter.mpr ⟨AG q,qV rr⟩
  simp_all
def Bv.step {K l:KL}{R:LS}{P:ME}(h:Bv K l R P){x:D×Nat}(hx:x.2∉l.map (·.2)):∃r,Bv K (l++[x]) r (bL K P x):=by
 have g:∀ {n:Nat},n∈l.map (·.2)->n∈(l++[x]).map (·.2):=λh=>by simp_all
 have i:x.2∈(l++[x]).map (·.2):=H9
 have j:(l++[x]).length=l.length+1:=H9
 have O:∀q∈R,∃y∈l++[x],dW K q (a6 y.1) y.2=true:=λq X=>by
  obtain⟨y,S,C⟩:=h.ded q X;exact⟨y,mem_append_left _ S,C⟩
 have m:Bv K (l++[x]) R P:=⟨by have:=h.len;lia,O,h.nod,λc F=>g (h.num c F),h.hs,by have:=h.hk;lia⟩;have z:=h.len;unfold bL;split
 .rename_i M;split
  .refine⟨R,N8,O,?_,λc F=>?_,h.hs,by rw[j];exact le_succ_of_le h.hk⟩
   .rw[uW,nodup_append];refine⟨h.nod,H9,λa Z b V e=>?_⟩;obtain⟨c,F,rfl⟩:=vO Z;simp at V;subst V;injection e with _ A;exact hx (A ▸ h.num c F)
   .rcases mem_append.mp F with F|F
    .exact g (h.num c F)
    .rw[uT F];exact i
  .split
   .have E:=dh [ai 2 x.1] (ai 1 x.1) (eM 4 x.1) P.1;refine⟨R,N8,O,?_,λc F=>?_,h.hs,by rw[j];exact le_succ_of_le h.hk⟩
    .rw[uW,nodup_append];refine⟨h.nod.sublist (lZ _ _ _ _),H9,λa Z b V e=>?_⟩;obtain⟨c,F,rfl⟩:=vO Z;simp at V;subst V;injection e with _ A;obtain⟨U,S,_,W⟩:=ma F;exact hx (A ▸ W ▸ h.num U S)
    .rcases mem_append.mp F with F|F
     .obtain⟨U,S,_,W⟩:=ma F;rw[<-W];exact g (h.num U S)
     .rw[uT F];exact i
   .split
    .have G:∀k:LK,T9 R (cK P.2.1 k)<=T9 R P.2.1+1/\(cK P.2.1 k).length<=P.2.1.length+1:=λk=>by
      grind[cK,T9]
     refine⟨R,?_,O,m.nod,m.num,λv B=>?_,?_⟩
     .grind
     .rcases wR B with B|B
      .exact⟨_,B⟩
      .exact h.hs v B
     .have:=(G [.inr (ai 2 x.1),.inr (ai 1 x.1)]).2;have:=h.hk;lia
    .rename_i L N Q;have H:kindOf x.1 = "death":=by
      simp_all[bS,qS]
     have I:dW K (ai 1 x.1) (a6 x.1) x.2=true:=by unfold bS at M;rwa [if_pos H]at M
     have s:ai 1 x.1∉R:=λJ=>by
      obtain⟨y,S,C⟩:=h.ded _ J;grind[C7]
     have E:=dh (P.1.map Cl.o) (ai 1 x.1) (a6 x.1) P.1;have t:=OY K P.1 P.2.1 P.2.2 (ai 1 x.1) (a6 x.1) x.2;have u:=ub (ai 1 x.1) R s P.2.1;have d:=AH K P.2.1 P.2.2 (ai 1 x.1) (a6 x.1) x.2 (cF P.1 (ai 1 x.1) (a6 x.1));have f:∀c∈qT K P.1 P.2.1 P.2.2 (ai 1 x.1) (a6 x.1) x.2,c.o∈cF P.1 (ai 1 x.1) (a6 x.1)/\c.n=x.2:=λc F=>by
      have:=d.subset (uS ⟨c,F,rr⟩);simp_all<;>lia
     refine⟨ai 1 x.1::R,?_,λq X=>?_,?_,λc F=>?_,h.hs,by rw[j];exact le_succ_of_le h.hk⟩
     .grind
     .rcases vP X with rfl|X
      .exact⟨x,H9,I⟩
      .exact O q X
     .rw[uW,nodup_append];refine⟨h.nod.sublist (lZ _ _ _ _),List.Nodup.sublist d (List.Pairwise.map _ (λa b p e=>p (by injection e)) (nj _ _ _)),λa Z b V e=>?_⟩;obtain⟨c,F,rfl⟩:=vO Z;obtain⟨c2,w,rfl⟩:=vO V;injection e with _ A;obtain⟨U,S,_,W⟩:=ma F;exact hx ((f c2 w).2 ▸ A ▸ W ▸ h.num U S)
     .rcases mem_append.mp F with F|F
      .obtain⟨U,S,_,W⟩:=ma F;rw[<-W];exact g (h.num U S)
      .rw[(f c F).2];exact i
 .exact⟨R,m⟩
def Fo (e:f[i]? = some (some (.dt ks vs,true)))(a:O f=some (d,b))(c:U f=some kd)(k:iP kd=some M)(o:bi d=true)(q:ks.length<=1000)(r:kd.length<=1000):wA i U O f=some (.nx (f.set i (some (.dt (cK ks M) (cA ks vs M d),true)))):=by
 unfold wA;rw[e];dsimp;rw[a,vJ,c,vJ,k,vJ,if_pos ⟨o,be N9,cD N9⟩]
def aaY a b:(aX (kC a) (kC b)).isSome=true:=by
 unfold kC;rw[aX];split
 .rw[aX];split
  .rw[aX];split
   .rfl
   .rfl
  .rfl
 .rfl
theorem md {k M:Type}(f:k->M):∀ {l:List k},(l.map f).Nodup->∀ {a b:k},a∈l->b∈l->f a=f b->a=b
 |[],_,_,_,o,_,_=>by cases o
 |c::l,h,a,b,o,w,e=>by
  rw[uY,nodup_cons]at h;rcases vP o with O|q
  .grind
  .rcases vP w with U|r
   .simp_all
   .exact md f h.2 q r e
def TB {c:List Cl}(k:a∈c)(q:b∈c)(e:bK (kC a)=bK (kC b)):(a.o,a.n)=(b.o,b.n):=by
 have h:=lJ (by
  simp[cz,aaY]) (uS ⟨a,k,rr⟩) (uS ⟨b,q,rr⟩) e;grind[kC]
def OZ (g:gI u)(w:Int)(h:Bv (af u w) l v t)(A:l.length<=60)(hx:x∈af u w)(f:aH x.1=false)(m:OB):
  ∃n,(pR [sT u,sI w,lT (t.1.map aK),some (.dt t.2.1 t.2.2,true),sI x.2,m]=some (.nx [sT u,sI w,lT ((bL (af u w) t x).1.map aK),some (.dt (bL (af u w) t x).2.1 (bL (af u w) t x).2.2,true),sI x.2,n])
   \/ pR [sT u,sI w,lT (t.1.map aK),some (.dt t.2.1 t.2.2,true),sI x.2,m]=some (.ct [sT u,sI w,lT ((bL (af u w) t x).1.map aK),some (.dt (bL (af u w) t x).2.1 (bL (af u w) t x).2.2,true),sI x.2,n])):=by
 obtain⟨V,c⟩:=dn g hx;have j:t.1.length<=60:=by have:=h.len;lia
 have W:bi x.1=true:=c.rp.flat;have q:=Hk g w t.1 j hx f;have O:kj (aY (fA o7 (fV 0 (fV 1 (fV 2 (fV 4 aw)))))) [sT u,sI w,lT (t.1.map aK),some (.dt t.2.1 t.2.2,true),sI x.2,some (x.1,false)]=some (!bS (af u w) t.1 x):=
  bw (bC (a5 [.tup u,.int w,.lst (t.1.map aK),.int x.2] q9 q))
 have R:fA bq (fV 5 aw) [sT u,sI w,lT (t.1.map aK),some (.dt t.2.1 t.2.2,true),sI x.2,some (x.1,false)]=sS (kindOf x.1):=a5 [x.1] rr (i7 c);refine⟨some (x.1,false),?_⟩;cases P:bS (af u w) t.1 x with
 |false=>
  rw[P]at O;have K:bL (af u w) t x=t:=by unfold bL;rw[P];rfl
  rw[K];exact .inr (dz x.1 (by simp[V]) W (WV (cV O rr)))
 |true=>
  rw[P]at O;left;refine dz x.1 (by simp[V]) W (aJ (bP O rr) ?_);by_cases D:kindOf x.1 = "named"
  .have K:bL (af u w) t x=(t.1++[⟨ai 1 x.1,ai 2 x.1,a6 x.1,none,x.2⟩],t.2):=by unfold bL;rw[P,if_pos rr,if_pos D]
   rw[K];refine cV (aW (bb:=false) R (qV D)) ?_;have U:ay [x.1,.str "office"]=sS (ai 1 x.1)/\ay [x.1,.str "person"]=sS (ai 2 x.1):=by
    refine cX λY g'=>?_;obtain⟨a,k,aj,e,d⟩:=c;apply g';rw[e]at D |-;replace D:k = "named":=D;cases d with
    |named d o p=>exact⟨ba (i:=1) cc rr,ba (i:=2) cc rr⟩
    |root=>exact d3 D
    |chosen=>exact d3 D
    |heir=>exact d3 D
    |three _ z=>rcases z with rfl|rfl|rfl<;>exact d3 D
    |other _ z=>rcases z with rfl|rfl|rfl|rfl|rfl<;>exact d3 D
   have r:bD [x.1]=sI (a6 x.1):=by simp_all[tQ,vc]
   have X:f2 jD (ak 2) (fA eE (ao (fA iU (fV 5 (ao (fA bD (fV 5 aw)) (fV 4 aw)))) aw)) [sT u,sI w,lT (t.1.map aK),some (.dt t.2.1 t.2.2,true),sI x.2,some (x.1,false)]=lT (t.1.map aK++[aK ⟨ai 1 x.1,ai 2 x.1,a6 x.1,none,x.2⟩]):=by
    refine fH (x:=.lst (t.1.map aK)) (y:=.lst [aK ⟨ai 1 x.1,ai 2 x.1,a6 x.1,none,x.2⟩]) (b1:=false) (b2:=true) rr ?_ (if_pos (cD (by rw[vI,length_singleton];lia)));exact a5 [aK ⟨ai 1 x.1,ai 2 x.1,a6 x.1,none,x.2⟩] (aC (a5 [x.1,.int (a6 x.1),.int x.2] (aP rr (aP (a5 [x.1] rr r) rr)) ( ah rr (am (a5 _ (aC (a5 _ rr U.1) (aC (a5 _ rr U.2) rr)) (bc _ H9))))) rr) (bR _ H9)
   have:=rf (i:=2) X (by have Z:=dB (t.1++[(⟨ai 1 x.1,ai 2 x.1,a6 x.1,none,x.2⟩:Cl)]);rwa [uW]at Z);rw[uW];exact this
  .refine bP (aW (bb:=false) R (yK D)) ?_;by_cases M:kindOf x.1 = "chosen"
   .have K:bL (af u w) t x=(a9 t.1 [ai 2 x.1] (ai 1 x.1) (eM 4 x.1)++[⟨ai 2 x.1,ai 3 x.1,eM 4 x.1,none,x.2⟩],t.2):=by simp_all[bL]
    rw[K];refine cV (aW (bb:=false) R (qV M)) (rf (i:=2) (a5 [.lst (t.1.map aK),x.1,.int x.2] rr ?_) (dB _));refine cX λY g'=>?_;obtain⟨a,k,aj,e,d⟩:=c;apply g';rw[e]at M |-;replace M:k = "chosen":=M;cases d with
    |chosen d b o p s=>exact Hl t.1 j x.2
    |root=>exact d3 M
    |named=>exact d3 M
    |heir=>exact d3 M
    |three _ z=>rcases z with rfl|rfl|rfl<;>exact d3 M
    |other _ z=>rcases z with rfl|rfl|rfl|rfl|rfl<;>exact d3 M
   .refine bP (aW (bb:=false) R (yK M)) ?_;by_cases F:kindOf x.1 = "heir"
    .have K:bL (af u w) t x=(t.1,cK t.2.1 [.inr (ai 2 x.1),.inr (ai 1 x.1)],cA t.2.1 t.2.2 [.inr (ai 2 x.1),.inr (ai 1 x.1)] (.str (ai 3 x.1))):=by simp_all[bL]
     rw[K];have U:ay [x.1,.str "office"]=sS (ai 2 x.1)/\ay [x.1,.str "by"]=sS (ai 1 x.1)/\ay [x.1,.str "person"]=sS (ai 3 x.1):=by
      obtain⟨a,k,aj,e,d⟩:=c;rw[e]at F |-;replace F:k = "heir":=F;cases d with
      |heir d b o p=>exact⟨ba (i:=2) cc rr,ba (i:=1) cc rr,ba (i:=3) cc rr⟩
      |root=>exact d3 F
      |named=>exact d3 F
      |chosen=>exact d3 F
      |three _ z=>rcases z with rfl|rfl|rfl<;>exact d3 F
      |other _ z=>rcases z with rfl|rfl|rfl|rfl|rfl<;>exact d3 F
     exact cV (aW (bb:=false) R (qV F)) (Fo (ks:=t.2.1) (vs:=t.2.2) (kd:=[.str (ai 2 x.1),.str (ai 1 x.1)]) (b:=false) rr (a5 [x.1,.str "person"] rr U.2.2) (aC (a5 [x.1,.str "office"] rr U.1) (aC (a5 [x.1,.str "by"] rr U.2.1) rr)) rr rr (by have:=h.hk;lia) H9)
    .refine bP (aW (bb:=false) R (yK F)) ?_;have K:bL (af u w) t x=(a9 t.1 (t.1.map Cl.o) (ai 1 x.1) (a6 x.1)++qT (af u w) t.1 t.2.1 t.2.2 (ai 1 x.1) (a6 x.1) x.2,t.2):=by simp_all[bL]
     rw[K];have S:kindOf x.1 = "death":=by
      unfold bS at P;by_cases S:kindOf x.1 = "death"
      .exact S
      .rw[if_neg S,if_neg (by simp[qS,D,M,F])]at P;cases P
     refine rf (i:=2) (a5 [.tup u,.int w,.lst (t.1.map aK),.dt t.2.1 t.2.2,.int x.2] H9 ?_) (dB _);refine cX λY g'=>?_;obtain⟨a,k,aj,e,d⟩:=c;apply g';have z:k = "death":=by rw[e]at S;exact S
     subst z;obtain⟨v,p,rfl⟩:=d.deed.three s9;have:=Lh g w t.1 j t.2.1 t.2.2 h.hs hx e;rw[this,e];rfl
theorem Fs (K:KL):∀l M(a:ME)(b:LS),Bv K M b a->((M++l).map (·.2)).Nodup->∃O,Bv K (M++l) O (l.foldl (bL K) a)
 |[],M,a,b,h,_=>⟨b,by rw[uQ];exact h⟩
 |x::l,M,a,b,h,c=>by
  have hx:x.2∉M.map (·.2):=λo=>by
   grind
  obtain⟨O,k⟩:=h.step hx;have e:M++x::l=(M++[x])++l:=H9
  rw[e]at c |-;exact Fs K l _ _ _ k c
def rA K l(h:(l.map (·.2)).Nodup):∃a,Bv K l a (gQ K l):=by
 exact Fs K l [] ([],[],[]) [] ⟨uN _,H9,C_,I9,H9,uN _⟩ h
def gn (h:(K.map (·.2)).Nodup):((bp K).map (·.2)).Nodup:=((aA _ _).map _).nodup_iff.mpr (List.Nodup.sublist (List.Sublist.map _ filter_sublist) h)
def Hm {ae:LD}(g:gI ae)(P:Int)(v:(bp (af ae P)).length<=60):tH [.tup ae,.int P]=lT ((aN (af ae P)).map aK)/\(aN (af ae P)).length<=60:=by
 have t:fj [.tup ae,.int P]=lT ((bp (af ae P)).map λx=>.int x.2):=qH g P;generalize i:af ae P=K at v t |-;have w:∀x∈bp K,x∈K/\aH x.1=false:=λx hx=>by
  obtain⟨S,V⟩:=vN ((aA _ _).mem_iff.mp hx);simp_all
 have u:((bp K).map (·.2)).Nodup:=gn (by grind[ca]);obtain⟨X,e,l,k,rfl⟩:=gH (tg:=eA 4) (g:=pR) (λj R=>∃l k:OB,R=[sT ae,sI P,lT ((gQ K ((bp K).take j)).1.map aK),some (.dt (gQ K ((bp K).take j)).2.1 (gQ K ((bp K).take j)).2.2,true),l,k]) ((bp K).map λx=>.int x.2)
  _ ⟨none,none,rr⟩ (by
   rintro j d R W ⟨l,k,rfl⟩;rw[vA]at W;obtain⟨x,hx,rfl⟩:=oY W;have G:(bp K).take (j+1)=(bp K).take j++[x]:=by rw[take_add_one,hx];rfl
   have z:gQ K ((bp K).take (j+1))=bL K (gQ K ((bp K).take j)) x:=by simp_all[gQ]
   obtain⟨m,q⟩:=w x (vL hx);obtain⟨Z,h⟩:=rA K ((bp K).take j) (List.Nodup.sublist (List.Sublist.map _ (take_sublist _ _)) u);rw[<-i]at h;have M:=OZ g P h (by rw[i,length_take];lia) (x:=x) (by rw[i];exact m) q k;rw[i]at M;obtain⟨A,M⟩:=M;exact⟨_,_,rr,M,sI x.2,A,by rw[z]⟩)
 have B:(bp K).take ((bp K).map λx=>D.int x.2).length=bp K:=H9
 rw[B]at e;obtain⟨Z,O⟩:=rA K (bp K) u;generalize C:(gQ K (bp K))=st at e O;have E:st.1.length<=60:=by have:=O.len;lia
 have f:aN K=dm (λc=>bK (kC c)) st.1:=by unfold aN;rw[C]
 have I:dQ (st.1.map λc=>D.tup [.str c.o,.int c.s,.int c.n])=some (st.1.map kC):=gh st.1 λc Y=>rr;have U:(st.1.map kC).length<64/\cz (st.1.map kC)=true/\c6 (st.1.map kC)=true/\((st.1.map kC).map bK).Nodup:=by
  refine⟨by rw[vI];lia,by
   simp_all[cz,aaY],?_,?_⟩
  .simp_all[c6,kC]
  .rw[uP];have S:st.1.Pairwise λa b=>(a.o,a.n)≠(b.o,b.n):=pairwise_map.mp O.nod;have V:st.1.Pairwise λa b=>bK (kC a)≠bK (kC b):=by
    refine List.Pairwise.imp_of_mem ?_ S;intro a b J L F e;exact F (TB J L e)
   exact pairwise_map.mpr V
 have N:(st.1.map kC).zip (st.1.map aK)=st.1.map λc=>(kC c,aK c):=by rw[zip_map']
 have r:((aN K).map λc=>(kC c,aK c))=dm (λp:List At×D=>bK p.1) (st.1.map λc=>(kC c,aK c)):=by
  rw[f];refine hG _ (λx hx y Q e=>?_) ((aA _ _).map _) ?_
  .grind[md]
  .exact pairwise_map.mpr (cZ _ _)
 refine⟨ah rr (bo (ds:=[]) H8 rr (aJ rr (aJ (lO (ds:=(bp K).map λx=>.int x.2) ?_ e) (am ?_)))),by rw[f,(aA _ _).length_eq];exact E⟩
 .show(fA fj (fV 0 (fV 1 aw)) _).bind _=_;rw[a5 [.tup ae,.int P] rr t];rfl
 .unfold yf;show((some (D.lst (st.1.map aK),false)).bind _)=_;simp only[vJ];rw[λR=>i6 st.1 λc Y=>by
  rfl];simp only[vJ];rw[I];simp only[vJ];rw[if_pos U];unfold eF;rw[N,<-r,uP];rfl
end Lw
namespace Lw
open PySem PySem.Spec DL L2
def dY (x:Int×OI):D:=.tup [.int x.1,uD x.2]
def iB x:bi (dY x)=true:=by simp[dY,Fk]
def wW x:aT 5 (dY x)=true:=by obtain⟨s,u⟩:=x;cases u<;>rfl
def TC {zs:LS}{i:Int}(b : -(zs.length:Int)<=i)(c:i<zs.length):∃z∈zs,cI (.lst (zs.map .str)) (.int i)=sS z:=by
 obtain⟨j,k,o⟩:∃j,HX (zs.map D.str).length i=some j/\j<zs.length:=by
  unfold HX;rw[vI];by_cases a:0<=i
  .simp_all
  .rw[if_neg a,if_pos M_];exact⟨_,rr,N9⟩
 simp_all[mr]
def MR:LN:=[7,255,3,15]
noncomputable def MS:LN:=[1,2,3,4,5,7,128,255]
inductive Dd:Str->List D->Prop
 |root (o r:Str) (m:Nat) (hm:m∈MR) (f:Int):Dd ("root" : Str) [.str o,.int m,.int f,.str r]
 |named (d:Int) (o p:Str):Dd ("named" : Str) [.int d,.str o,.str p]
 |chosen (d:Int) (b o p:Str) (s:Int):Dd ("chosen" : Str) [.int d,.str b,.str o,.str p,.int s]
 |heir (d:Int) (b o p:Str):Dd ("heir" : Str) [.int d,.str b,.str o,.str p]
 |three (k:Str) (hk:k = "death" \/ k = "lost" \/ k = "found") (d:Int) (p:Str):Dd k [.int d,.str p]
 |leave (d:Int) (b p:Str) (m:Nat) (hm:m∈MS) (x:Int×Option Int) (f:Int):Dd ("leave" : Str) [.int d,.str b,.str p,.int m,dY x,.int f]
 |paper (k:Str) (hk:k = "paper" \/ k = "like") (d:Int) (b:Str) (m:Nat) (hm:m∈MS) (x:Int×Option Int) (r:List D) (hf:aU r=true) (hp:r.all (aT 5)=true):Dd k (.int d::.str b::.int m::dY x::r)
 |copy (k:Str) (hk:k = "copy" \/ k = "call") (d:Int) (b:Str) (n:Nat):Dd k [.int d,.str b,.int n]
def Dd.cd (h:Dd k r):Cd k r:=by
 cases h with
 |root o r m c f=>exact .root _ _ _ _
 |named d o p=>exact .named _ _ _
 |chosen d b o p s=>exact .chosen _ _ _ _ _
 |heir d b o p=>exact .heir _ _ _ _
 |three k a d p=>exact .three _ a _ _
 |leave d b p m c x f=>exact .other _ (.inl rr) _ _ _ (by simp[iB]) (by simp[wW])
 |paper k a d b m c x r q w=>exact .other _ (a.elim (λh=>.inr (.inl h)) λh=>.inr (.inr (.inl h))) _ _ _ (by simp[q,iB]) (by simp_all[wW])
 |copy k a d b n=>exact .other _ (a.elim (λh=>.inr (.inr (.inr (.inl h)))) λh=>.inr (.inr (.inr (.inr h)))) _ _ _ rr q9
def Dd.flat (h:Dd k r):aU r=true:=h.cd.deed.flat
def b8 (r:D):Prop:=∃h k aj,r=row h k aj/\Dd k aj
def b8.c (g:b8 r):yx r:=by obtain⟨h,k,aj,e,d⟩:=g;exact⟨h,k,aj,e,d.cd⟩
def b8.flat (g:b8 r):bi r=true:=g.c.rp.flat
noncomputable def oQ (a:LD):LS:=(a.filter aH).map (ai 0)
def Hn a r:oQ (a++[r])=oQ a++if aH r=true then [ai 0 r]else []:=by
 grind[oQ]
def wZ (a b:Nat):jx [.int a,.int b]=sO (decide (a &&& b=b)):=by
 have:Builtin.bitAnd a b=(a &&& b:Nat):=by rfl
 simp[jx,this];lia
def fT (r:D):Nat:=(if kindOf r = "root" then eM 1 r else if kindOf r = "leave" then eM 3 r else eM 2 r).toNat
def dC (a:Int)(k:Str)(aj:LD):kindOf (row a k aj)=k:=rfl
noncomputable def cM:LS:=[("leave" : Str),"paper","like"]
def ly (g:b8 r)(h:aH r=true):∃a o c,∃m:Nat,∃f:Int,r=row a "root" [.str o,.int m,.int f,.str c]/\m∈MR/\fT r=m:=by
 obtain⟨a,k,aj,rfl,d⟩:=g;have b:k = "root":=HN h;clear h;cases d with
 |root o c m q f=>exact⟨a,o,c,m,f,rr,q,q9⟩
 |named=>exact d3 b
 |chosen=>exact d3 b
 |heir=>exact d3 b
 |three k M=>rcases M with rfl|rfl|rfl<;>exact d3 b
 |leave=>exact d3 b
 |paper k M=>rcases M with rfl|rfl<;>exact d3 b
 |copy k M=>rcases M with rfl|rfl<;>exact d3 b
def Ft (g:b8 r)(h:aH r=true):ay [r,.str "matters"]=sI (fT r):=by
 obtain⟨a,o,b,m,f,rfl,z,e⟩:=ly g h;rfl
def Li {a:Int}{k:Str}{aj:LD}(d:Dd k aj)(h:k∈cM):fT (row a k aj)∈MS/\(∃i:Nat,mK cE (.str k) (.str "matters")=sI i/\aj[i]? = some (.int (fT (row a k aj))))/\(D.str k::aj).getD (3+if k = "leave" then 1 else 0) .non=.int (fT (row a k aj))/\(3+if k = "leave" then 1 else 0)<(D.str k::aj).length:=by
 cases d with
 |leave d b p m c x f=>
  refine⟨c,⟨3,cc,rr⟩,?_,?_⟩
  .rfl
  simp
 |paper k o d b m c x r w z=>
  have q:k ≠ "leave":=by rcases o with rfl|rfl<;>decide +kernel
  have e:fT (row a k (.int d::.str b::.int m::dY x::r))=m:=by unfold fT;rw[dC,if_neg (by rcases o with rfl|rfl<;>decide +kernel),if_neg q];rfl
  rw[e];refine⟨c,⟨2,by rcases o with rfl|rfl<;>exact cc,rr⟩,?_,?_⟩
  .rw[if_neg q];rfl
  simp_all
 |root=>exact d3 h
 |named=>exact d3 h
 |chosen=>exact d3 h
 |heir=>exact d3 h
 |three k M=>rcases M with rfl|rfl|rfl<;>exact d3 h
 |copy k M=>rcases M with rfl|rfl<;>exact d3 h
def y7 (g:b8 r)(h:kindOf r∈cM):ay [r,.str "matters"]=sI (fT r):=by
 obtain⟨a,k,aj,rfl,d⟩:=g;obtain⟨z,⟨i,b,c⟩,z⟩:=Li d h;exact ba b c
noncomputable def bg:LS:=[("leave" : Str),"paper","like","copy"]
def dD (h:k∈bg\/k = "call"):df k=true:=by
 grind[tO,bg,AB]
def Fu (g:b8 r)(h:df (kindOf r)=true):ay [r,.str "by"]=sS (cm r):=by
 obtain⟨a,k,aj,rfl,d⟩:=g;obtain⟨c,b,q,rfl⟩:=d.cd.deed.slg h;exact ba (Lc h) rr
noncomputable def aE (K:KL):LD:=(K.filter λx=>aH x.1).map (·.1)
theorem AI:∀(l:List (dH×D))(a:LK×LD),(a.1++l.map (·.1)).Nodup->l.foldl sQ a=(a.1++l.map (·.1),a.2++l.map (·.2))
 |[],a,_=>by simp
 |p::l,a,h=>by
  have b:p.1∉a.1:=by
   grind
  have e:sQ a p=(a.1++[p.1],a.2++[p.2]):=by simp_all[sQ,cK,cA]
  rw[foldl_cons,e,AI l _ (by rw[append_assoc];exact h)];simp
theorem rC:∀ {a:LD}{v:D},(a.map (ai 0)).Nodup->v∈a->bj (a.map λv=>(.inr (ai 0 v):dH)) a (.inr (ai 0 v))=some v
 |w::a,v,h,b=>by
  rw[uY,nodup_cons]at h;rw[uY,bj];rcases vP b with rfl|b
  .rw[if_pos rr]
  .rw[if_neg λz=>h.1 (by grind)];exact rC h.2 b
section
variable {K:KL}(hn:((aE K).map (ai 0)).Nodup)
include hn
theorem nn:cb (oK K)=((aE K).map λv=>(.inr (ai 0 v):dH),aE K):=by
 have e:oK K=(aE K).map λv=>(.inr (ai 0 v),v):=by unfold oK aE;rw[uP];rfl
 rw[e];unfold cb;rw[AI _ _ (by rw[uP];exact (by
  refine pairwise_map.mpr ((pairwise_map.mp hn).imp λh z=>h (Sum.inr.inj z)))),uP,uP];congr 1;exact map_id _
end
noncomputable def Pa (j:Nat):D->Int×OI
 |.tup [_,.tup (_::aj)]=>match aj[j]? with
  |some (.tup [.int s,.int u])=>(s,some u)
  |some (.tup [.int s,.non])=>(s,none)
  |_=>(0,none)
 |_=>(0,none)
def rE{aj:LD}{j:Nat}{x:Int×OI}(e:aj[j]? = some (dY x)):Pa j (row h k aj)=x:=by
 unfold Pa row;dsimp ;rw[e];obtain⟨s,u⟩:=x;cases u<;>rfl
def cN (r:D):Int×OI:=if kindOf r = "leave" then Pa 4 r else Pa 3 r
def eN (r:D):Int:=if kindOf r = "root" then eM 2 r else eM 5 r
def jY (r:D):Bool:=decide (kindOf r = "leave")
def iX(g:b8 r)(h:kindOf r = "leave"):∃a d b p,∃m:Nat,∃x f,r=row a "leave" [.int d,.str b,.str p,.int m,dY x,.int f]/\m∈MS/\fT r=m/\cN r=x/\eN r=f:=by
 obtain⟨a,k,aj,rfl,d⟩:=g;have c:k = "leave":=h;clear h;cases d with
 |leave d b p m o x f=>exact⟨a,d,b,p,m,x,f,rr,o,q9,by unfold cN;rw[dC,if_pos rr];exact rE rr,q9⟩
 |root=>exact d3 c
 |named=>exact d3 c
 |chosen=>exact d3 c
 |heir=>exact d3 c
 |three k M=>rcases M with rfl|rfl|rfl<;>exact d3 c
 |paper k M=>rcases M with rfl|rfl<;>exact d3 c
 |copy k M=>rcases M with rfl|rfl<;>exact d3 c
def Fv {a:Int}{k:Str}{aj:LD}(d:Dd k aj)(h:k∈cM):(∃i:Nat,mK cE (.str k) (.str "stretch")=sI i/\aj[i]? = some (dY (cN (row a k aj))))/\(D.str k::aj).getD (4+if k = "leave" then 1 else 0) .non=dY (cN (row a k aj))/\(4+if k = "leave" then 1 else 0)<(D.str k::aj).length:=by
 cases d with
 |leave d b p m q x f=>
  have e:cN (row a ("leave" : Str) [.int d,.str b,.str p,.int m,dY x,.int f])=x:=by unfold cN;rw[dC,if_pos rr];exact rE rr
  rw[e];exact⟨⟨4,cc,rr⟩,rr,C_⟩
 |paper k c d b m q x r w z=>
  have o:k ≠ "leave":=by rcases c with rfl|rfl<;>decide +kernel
  have e:cN (row a k (.int d::.str b::.int m::dY x::r))=x:=by unfold cN;rw[dC,if_neg o];exact rE rr
  rw[e,if_neg o];exact⟨⟨3,by rcases c with rfl|rfl<;>exact cc,rr⟩,rr,H9⟩
 |root=>exact d3 h
 |named=>exact d3 h
 |chosen=>exact d3 h
 |heir=>exact d3 h
 |three k M=>rcases M with rfl|rfl|rfl<;>exact d3 h
 |copy k M=>rcases M with rfl|rfl<;>exact d3 h
def Fw (g:b8 r)(h:kindOf r∈cM):ay [r,.str "stretch"]=some (dY (cN r),false):=by
 obtain⟨a,k,aj,rfl,d⟩:=g;obtain⟨⟨i,b,c⟩,z⟩:=Fv d h;exact ba b c
def y8 (h:kindOf r = "leave"):kindOf r∈cM:=by rw[h];decide +kernel
def QL (g:b8 r)(h:aH r=true\/kindOf r = "leave"):ay [r,.str "further"]=sI (eN r):=by
 rcases h with h|h
 .obtain⟨a,o,c,m,f,rfl,_,_⟩:=ly g h;rfl
 .obtain⟨a,d,b,p,m,x,f,e,_,_,_,M⟩:=iX g h;rw[e];rfl
def iC (r v:D):Bool:=decide (fT v &&& fT r=fT r) && !(jY r && decide (eN v<=eN r))
def qc (r v:D):D:=if decide (fT v &&& fT r=fT r)=true then (if(jY r && decide (eN v<=eN r))=true then .str "further" else .non)else .str "matters"
def AJ (U:b8 r)(k:b8 v)(g:kindOf r∈cM)(o:aH v=true\/kindOf v = "leave"):∃d,lg [r,v]=some (d,false)/\Gw d .non=sO (iC r v)/\d=qc r v:=by
 have b:=o.elim (λh=>by
  obtain⟨a,o,b,m,f,rfl,z,e⟩:=ly k h;rfl) λh=>y7 k (by rw[h];decide +kernel);have e:aY (fA jx (ao (fA ay (fV 1 (ao (fS "matters") aw))) (ao (fA ay (fV 0 (ao (fS "matters") aw))) aw))) [some (r,false),some (v,false)]=some _:=bC (a5 _ (aC (a5 [v,.str "matters"] rr b) (aC (a5 [r,.str "matters"] rr (y7 U g)) rr)) (wZ _ _));have i:aY (f2 dL (fA bq (fV 0 aw)) (fS "leave")) [some (r,false),some (v,false)]=some (jY r):=aW (a:=kindOf r) (bb:=false) (a5 [r] rr (i7 U.c)) rr;have j:jY r=true->aY (f2 iGe (fA ay (fV 0 (ao (fS "further") aw))) (fA ay (fV 1 (ao (fS "further") aw)))) [some (r,false),some (v,false)]=some _:=λh=>bC (aL (.int (eN r)) (.int (eN v)) (a5 [r,.str "further"] rr (QL U (.inr (HN h)))) (a5 [v,.str "further"] rr (QL k o)) rr);have f:=aD i j;unfold iC;cases M:decide (fT v &&& fT r=fT r) with
 |false=>exact⟨.str "matters",ah rr (aR (bw (p:=false) (e.trans (by rw[M]))) (am rr)),rr,by simp only[qc,M];rfl⟩
 |true=>
  cases O:(jY r && decide (eN v<=eN r)) with
  |true=>exact⟨.str "further",ah rr (aq (bw (p:=true) (e.trans (by rw[M]))) (aR (f.trans (by rw[O])) (am rr))),rr,by simp only[qc,M,O];rfl⟩
  |false=>exact⟨.non,ah rr (aq (bw (p:=true) (e.trans (by rw[M]))) (aq (f.trans (by rw[O])) (am rr))),rr,by simp only[qc,M,O];rfl⟩
def np (h:k∈cM):k∈bg:=by
 have:∀k∈cM,k∈bg:=s9
 exact this k h
def iY (h:kindOf r∈cM):aH r=false:=by
 have:∀k∈cM,decide (k = "root")=false:=s9
 exact this _ h
def uc (g:b8 r)(h:aH r=false):bD [r]=sI (a6 r):=by
 have:=tQ g.c;simp_all[vc]
def oR (a:List Cl)(r v:D):Bool:=cL a (ai 0 v) (ai 3 v) (cm r) (a6 r) && iC r v
def Lj (a:List Cl)(r v:D):D:=if cL a (ai 0 v) (ai 3 v) (cm r) (a6 r)=true then qc r v else .str "holder"
def Pc (k:List Cl)(M:k.length<=60)(O:b8 r)(q:b8 v)(U:kindOf r∈cM)(w:aH v=true):∃d,gS [.lst (k.map aK),r,v]=some (d,false)/\Gw d .non=sO (oR k r v)/\d=Lj k r v:=by
 obtain⟨d,e,z,g⟩:=AJ O q U (.inl w);have c:aY (fA dN (fV 0 (fV 2 (ao (fA ay (fV 1 (ao (fS "by") aw))) (ao (fA bD (fV 1 aw)) aw))))) [sL (k.map aK),some (r,false),some (v,false)]=some (cL k (ai 0 v) (ai 3 v) (cm r) (a6 r)):=by
  refine bC (a5 _ (aP rr (aP rr (aC (a5 _ rr (Fu O (dD (.inl (np U))))) (aC (a5 [r] rr (uc O (iY U))) rr)))) ?_);refine cX λy g'=>?_;obtain⟨a,o,D,m,f,rfl,y,y⟩:=ly q w;apply g';exact yz k M _ _
 unfold oR;cases b:cL k (ai 0 v) (ai 3 v) (cm r) (a6 r) with
 |false=>exact⟨.str "holder",ah rr (aR (bw (p:=false) (c.trans (by rw[b]))) (am rr)),rr,by simp only[Lj,b];rfl⟩
 |true=>exact⟨d,ah rr (aq (bw (p:=true) (c.trans (by rw[b]))) (am (a5 [r,v] rr e))),z,by grind[Lj]⟩
def Lk (a:List Cl)(r v:D):Int:=match ko a (ai 0 v) (ai 3 v) (a6 r) with
 |.tup [_,_,.int n]=>n
 |_=>0
def Ll (h:cL d o e p day=true):∃n:Int,ko d o e day=.tup [.str "one",.str p,.int n]:=by
 unfold cL ko at h;unfold ko;generalize ve d o _=M at h |-;cases M with
 |nil=>
  have h:gV (.tup [.str _]) _=true:=h;simp_all
 |cons b r=>
  rw[kn]at h |-;split at h
  .have h:gV (.tup [.str _,.lst _]) _=true:=h;simp_all
  .rename_i a;rw[if_neg a];have h:gV (.tup [.str _,.str _]) _=true:=h;simp_all
def Xb (a:List Cl)(r v:D):D:=.tup [.str "office",.str (ai 0 v),.int (Lk a r v)]
def ud (g:∀r∈d,b8 r)(a:v∈aE (af d e)):b8 v/\aH v=true:=by
 obtain⟨x,hx,rfl⟩:=vO a;obtain⟨b,c⟩:=vN hx;exact⟨g _ (vL (aG b)),c⟩
def Ho {z:LD}(g:∀r∈z,b8 r)(S:z.length<=60)(F:Int)(X:((aE (af z F)).map (ai 0)).Nodup)(w:List Cl)(O:w.length<=60){b:Nat}{r:D}(e:z[b]? = some r)(k:kindOf r∈cM):
    iq [.tup z,.int F,.lst (w.map aK),.int b]=lT (((aE (af z F)).filter (oR w r)).map (Xb w r)):=by
  have l:gI z:=⟨S,λr e=>(g r e).c⟩;have h:=g r (vL e);have n:=(by
   unfold aE;rw[vI];exact vR (vM _ _) (vR (b9 _ _) S):(aE (af z F)).length<=60);have V:=d8 (fi:=yj (fA iT (fV 0 (fV 1 aw)))) (nT:=1) (cap:=[2,4]) (tg:=eA 0) (c:=aY (f2 Gw (fA gS (fV 1 (fV 2 (fV 0 aw)))) (fC .non))) (fe:=ak 0)
    (ρ:=[sT z,sI F,sL (w.map aK),sI b,some (r,false),none]) (aE (af z F)) id (oR w r) id
    (by show(fA iT _ _).bind _=_;rw[a5 [.tup z,.int F] rr (tX l F),nn X];simp) N9 λv K=>by
      obtain⟨P,M⟩:=ud g K;obtain⟨d,p,Z,y⟩:=Pc w O h P k M;exact⟨[some (v,false),sL (w.map aK),some (r,false)],rr,bC (aL d .non (a5 [.lst (w.map aK),r,v] rr p) rr Z),λy=>⟨false,rr⟩⟩
  rw[map_id]at V;have q:aU ((aE (af z F)).filter (oR w r))=true:=br λv K=>(ud g (vN K).1).1.flat;refine ah rr (dz r (aL (.tup z) (.int b) rr rr (by simp[bv e])) h.flat (bo V q (am ?_)));refine gP (fi:=cY (ak 5)) (nT:=1) (cap:=[2,4]) (tg:=eA 0)
     ((aE (af z F)).filter (oR w r)) id (Xb w r) H9 (vR (vM _ _) N9) λv K=>?_
  obtain⟨i,j⟩:=vN K;obtain⟨P,M⟩:=ud g i;have U:(cL w (ai 0 v) (ai 3 v) (cm r) (a6 r) && iC r v)=true:=j;rw[vC]at U;have R:=(by
   obtain⟨n,e⟩:=Ll U.1;unfold Lk;rw[e]:ko w (ai 0 v) (ai 3 v) (a6 r)=.tup [.str "one",.str (cm r),.int (Lk w r v)]);refine⟨[some (v,false),sL (w.map aK),some (r,false)],rr,false,?_⟩;obtain⟨a,o,W,m,f,rfl,y,y⟩:=ly P M;refine a5 [.str "office",.str o,.int (Lk w r _)] (aP rr (aC (a5 _ rr (ba (i:=0) cc rr)) (aP (aL (ko w o W (a6 r)) (.int 2) (a5 _ (aP rr (aP rr (aC (a5 [r] rr (uc h (iY k))) rr))) (oJ w O _)) rr ?_) rr))) (bc _ H9);have R:ko w o W (a6 r)=_:=R;rw[R];rfl
noncomputable def j0 (a:Int)(x:Int×OI):Bool:=decide (x.1<=a) && (match x.2 with|none=>true|some u=>decide (a<u))
noncomputable def Xc:OI->OI->Bool
 |_,none=>true
 |none,some _=>false
 |some x,some y=>decide (x<=y)
def Pe a b:jg [uD a,uD b]=sO (Xc a b):=by
 cases b with
 |none=>rfl
 |some y=>
  cases a with
  |none=>rfl
  |some x=>rfl
def vg (a b:Int×OI):Bool:=decide (b.1<=a.1) && Xc a.2 b.2
def TD a b:iV [dY a,dY b]=sO (vg a b):=
 ah rr (am (bQ (b1:=false) (by rfl) λz=>a5 _ (aP (by rfl) (aP (by rfl) rr)) (Pe _ _)))
def QM {a:LD}{i:Nat}{r:D}(M:a[i]? = some r)(g:b8 r)(h:aH r=false):ie [.tup a,.int i]=sT [.int (a6 r),.int i]:=
 ah rr (am (a5 _ (aP (a5 _ (by simp[bv M]) (uc g h)) rr) H8))
def aaZ a b c d:tLt (.tup [.int a,.int b]) (.tup [.int c,.int d])=sO (decide (a<c\/(a=c/\b<d))):=by
 show(aX _ _).map _=_;rw[OT];rfl
def AK {a:LD}{i j:Nat}{x y:D}(hx:a[i]? = some x)(b:a[j]? = some y)(M:b8 x)(O:b8 y)(c:aH x=false)(U:aH y=false):ir [.tup a,.int i,.int j]=sO (bX (x,i) (y,j)):=
 ah rr (am (aL _ _ (a5 _ rr (QM hx M c)) (a5 _ rr (QM b O U)) (by
  show(aX _ _).map _=_;rw[OT];rfl)))
def Hq (r:D)(M:Nat)(x:D×Nat):Bool:=bX x (r,M) && ((j0 (a6 r) (cN x.1) && vg (cN r) (cN x.1)) && iC r x.1)
def Fx (r:D)(M:Nat)(x:D×Nat):D:=if bX x (r,M)=true then (if(j0 (a6 r) (cN x.1) && vg (cN r) (cN x.1))=true then qc r x.1 else .str "days")else .str "order"
def nu {b:LD}{aa:Int}{i:Nat}{r:D}(O:b[i]? = some r)(g:b8 r):io [.tup b,.int aa,.int i]=sO (decide (aO r<=aa) && jY r):=by
 exact ah rr (am (bQ (a5 _ rr (by
  obtain⟨a,k,aj,rfl,d⟩:=g;exact lw O _)) λz=>aL _ _ (a5 _ (aP (aL _ _ rr rr (by simp[bv O])) rr) (i7 g.c)) rr (by simp[jY])))
noncomputable def C8 (K:KL)(p:Str):KL:=(K.filter λx=>jY x.1).filter λx=>decide (ai 2 x.1=p)
def Hs {k:LD}(g:∀r∈k,b8 r)(q:k.length<=60)(o:Int){M:Nat}{r:D}(O:k[M]? = some r)(a:kindOf r∈cM):
    jh [.tup k,.int o,.int M]=lT (((C8 (af k o) (cm r)).filter (Hq r M)).map λx=>.tup [.str "leave",.int x.2]):=by
  have b:=g r (vL O);have e:=b9 k o;have f:(C8 (af k o) (cm r)).length<=60:=vR (vM _ _) (vR (vM _ _) M_);refine ah rr (bo (a5 _ (aP rr (aP rr (aC (a5 _ (aP (aL _ _ rr rr (by simp[bv O])) rr) (Fu b (dD (.inl (np a))))) rr))) ((by
   have O:=b9 k o;have z:=d8 (fi:=cY (fA fJ (fV 0 (fV 1 aw)))) (nT:=1) (cap:=[0,1]) (tg:=eA 0) (c:=aY (fA io (fV 1 (fV 2 (fV 0 aw))))) (fe:=ak 0)
    (ρ:=[sT k,sI o,sS (cm r),none]) _ _ _ _
    (by show(fA fJ _ _).bind _=_;rw[a5 _ rr (lq k (λh U=>(g h U).c.rp) N9 o)];rfl) N9 λx hx=>by
     have F:=(vN hx).2;have:=nu (aa:=o) (aG hx) (g _ (vL (aG hx)));rw[F,Bool.true_and]at this;exact⟨_,rr,bC (a5 _ rr this),λl=>⟨false,rr⟩⟩
   refine ah rr (bo z (br λd K=>by obtain⟨x,l,rfl⟩:=vO K;rfl) (am ?_));refine d8 (fi:=cY (ak 3)) (nT:=1) (cap:=[2,0]) (tg:=eA 0) (fe:=ak 0)
    (ρ:=[sT k,sI o,sS (cm r),lT (((af k o).filter λx=>jY x.1).map λx=>.int x.2)]) ((af k o).filter λx=>jY x.1) (λx=>.int x.2) _ _ H9 (vR (vM _ _) N9) λx hx=>?_
   refine cX λl g'=>?_;obtain⟨w,P⟩:=vN hx;obtain⟨a,d,b,i,m,S,f,e,l⟩:=iX (g _ (vL (aG w))) (HN P);apply g';refine⟨[sI x.2,sS (cm r),sT k],rr,bC (aL (.str (ai 2 x.1)) (.str (cm r)) (a5 [x.1,.str "person"] (aP (aL (.tup k) (.int x.2) rr rr (by simp[bv (aG w)])) rr) ?_) rr H9),λl=>⟨false,rr⟩⟩;rw[e];rfl:li [.tup k,.int o,.str (cm r)]=lT ((C8 (af k o) (cm r)).map λx=>.int x.2)))) (br λd w=>by obtain⟨x,l,rfl⟩:=vO w;rfl) (am ?_));refine d8
     _ (λx=>.int x.2) _ _ H9 N9 λx hx=>?_
  obtain⟨z,F,K⟩:=(by
   obtain⟨b,l⟩:=vN hx;obtain⟨a,c⟩:=vN b;exact⟨aG a,g _ (vL (aG a)),HN c⟩:k[x.2]? = some x.1/\b8 x.1/\kindOf x.1 = "leave");obtain⟨d,c,P,l⟩:=(by
   have j:=iY a;have o:=iY (y8 K);obtain⟨d,q,R,s⟩:=AJ b F a (.inr K);let E:DL.Env:=[sT k,sI M,sI x.snd,some (r,false),some (dY (cN x.fst),false)];have m:∀B:DL.Env,B[0]? = some (sT k)->B[2]? = some (sI x.snd)->f2 cI (ak 0) (ak 2) B=some (x.fst,false):=λB S V=>aL (.tup k) (.int x.snd) (by simp[S]) (by simp[V]) (by simp[bv z]);have g:aY (fA ir (fV 0 (fV 2 (fV 1 aw)))) E=some (bX (x.fst,x.snd) (r,M)):=bC (a5 [.tup k,.int x.snd,.int M] rr (AK z O F b o j));have t:aY (fA lS (ao (fA bD (fV 3 aw)) (fV 4 aw))) E=some (j0 (a6 r) (cN x.fst)):=bC (a5 [.int (a6 r),dY (cN x.fst)] (aC (a5 [r] rr (uc b j)) (aP rr rr)) (yy _ _ _));have u:aY (fA iV (ao (fA ay (fV 3 (ao (fS "stretch") aw))) (fV 4 aw))) E=some (vg (cN r) (cN x.fst)):=bC (a5 [dY (cN r),dY (cN x.fst)] (aC (a5 [r,.str "stretch"] rr (Fw b a)) (aP rr rr)) (TD _ _));have n:=b7 (bw t) λl=>bw u;have K:∀(h:FS)(v:Option Res),h E=v->ce (dq 3 (f2 cI (ak 0) (ak 1))) (ce (dq 4 (fA ay (ao (f2 cI (ak 0) (ak 2)) (ao (fS "stretch") aw)))) h) [sT k,sI M,sI x.snd,none,none]=v:=λh v A=>
    dz r (aL (.tup k) (.int M) rr rr (by simp[bv O])) b.flat (dz (dY (cN x.fst)) (a5 [x.fst,.str "stretch"] (aC (m _ rr rr) rr) (Fw F (y8 K))) (iB _) A)
   unfold Hq;cases U:bX (x.fst,x.snd) (r,M) with
   |false=>exact⟨.str "order",ah rr (K _ _ (aR (bw (p:=false) (g.trans (by rw[U]))) (am rr))),rr,by simp only[Fx,U];rfl⟩
   |true=>
    cases y:(j0 (a6 r) (cN x.fst) && vg (cN r) (cN x.fst)) with
    |false=>exact⟨.str "days",ah rr (K _ _ (aq (bw (p:=true) (g.trans (by rw[U]))) (aR (n.trans (by rw[<-Bool.not_and,y];rfl)) (am rr)))),rr,by simp only[Fx,U,y];rfl⟩
    |true=>exact⟨d,ah rr (K _ _ (aq (bw (p:=true) (g.trans (by rw[U]))) (aq (n.trans (by rw[<-Bool.not_and,y];rfl)) (am (a5 [r,x.fst] (aP rr (aC (m _ rr rr) rr)) q))))),R,by rw[s];simp only[Fx,U,y];rfl⟩:∃d,lh [.tup k,.int M,.int x.snd]=some (d,false)/\Gw d .non=sO (Hq r M (x.fst,x.snd))/\d=Fx r M (x.fst,x.snd));exact⟨[sF _,sF _,sF _],rr,bC (aL d _ (a5 _ rr c) rr P),λl=>⟨false,a5 _ rr (bc _ H9)⟩⟩
abbrev Bs:=Option Str×Int
noncomputable def MF:Bs->D
 | (some o,n)=>.tup [.str "office",.str o,.int n]
 | (none,n)=>.tup [.str "leave",.int n]
noncomputable def AL:Bs->List At
 | (some o,n)=>[.i n,.s ("office" : Str),.s o,.i n]
 | (none,n)=>[.i n,.s ("leave" : Str),.i n]
def Lo b:bi (MF b)=true:=by rcases b with⟨z|o,n⟩<;>rfl
def Lp (a b:Bs):(aX (AL a) (AL b)).isSome=true:=by
 rcases a with⟨z|o,n⟩<;>rcases b with⟨z|c,M⟩
 .show(aX [.i n,.s _,.i n] [.i M,.s _,.i M]).isSome=true;rw[aX];split
  .simp_all[aX]
  .rfl
 .show(aX [.i n,.s _,.i n] [.i M,.s _,.s c,.i M]).isSome=true;rw[aX];split
  .rfl
  .rfl
 .show(aX [.i n,.s _,.s o,.i n] [.i M,.s _,.i M]).isSome=true;rw[aX];split
  .rfl
  .rfl
 .show(aX [.i n,.s _,.s o,.i n] [.i M,.s _,.s c,.i M]).isSome=true;rw[aX];split
  .rw[aX,if_pos rr,aX];split
   .simp_all[aX]
   .rfl
  .rfl
def Ph (h:AL a=AL b):a=b:=by
 rcases a with⟨z|o,n⟩<;>rcases b with⟨z|c,M⟩<;>simp[AL]at h
 .rw[h]
 simp_all
def Fy (l:List Bs):cz (l.map AL)=true:=by
 simp[cz,Lp]
theorem Lq (e:bK (AL a)=bK (AL b)):a=b:=Ph (lJ (Fy [a,b]) C_ C_ e)
def toB (a:List Cl)(r v:D):Bs:=(some (ai 0 v),Lk a r v)
def AM (K:KL)(a:List Cl)(r:D)(M:Nat):List Bs:=((aE K).filter (oR a r)).map (toB a r)++((C8 K (cm r)).filter (Hq r M)).map λx=>(none,(x.2:Int))
def Pj (K:KL)(a:List Cl)(r:D)(M:Nat):List Bs:=dm (λb=>bK (AL b)) (AM K a r M)
def Ht (c:((aE (af d f)).map (ai 0)).Nodup)k(r)M:(AM (af d f) k r M).Nodup:=by
 unfold AM;rw[nodup_append];refine⟨?_,?_,?_⟩
 .exact pairwise_map.mpr ((List.Pairwise.sublist filter_sublist (pairwise_map.mp c)).imp λh e=>h (vK (Prod.mk.inj e).1))
 .refine pairwise_map.mpr ((List.Pairwise.sublist (filter_sublist.trans (filter_sublist.trans filter_sublist)) (pairwise_map.mp (ca _ _))).imp λh e=>h ?_);lia
 .intro a o b q e;obtain⟨v,z,rfl⟩:=vO o;obtain⟨x,z,rfl⟩:=vO q;cases (Prod.mk.inj e).1
theorem xa {a:Type}{g:a->D}{h:a->List At}:∀(l:List a),(∀x∈l,Th (g x)=some (h x))->m5 (l.map g)=some (l.map h)
 |[],_=>rr
 |x::l,k=>by
  rw[uY,m5,k x mX,xa l λy b=>k y (mZ _ b)];rfl
def Fz (c:d.length<=30)(a)b(r)M:(AM (af d a) b r M).length<=60:=by
 have k:((aE (af d a)).filter (oR b r)).length<=30:=by
  grind[aE,b9]
 grind[b9,C8,AM]
def Lr {f:FE}{a:DL.Env}{b:Bool}(l:List Bs)(r:l.length<=60)(c:l.Nodup)(e:f a=some (.lst (l.map MF),b)):Cn f (Ab [] (fA cS (ao (f2 cI (ak 0) (f1 Jh (fI 1))) (fV 0 aw)))) a=lT ((dm (λb=>bK (AL b)) l).map MF):=by
 have q:m5 (l.map λb=>D.tup [.int b.2,MF b])=some (l.map AL):=xa l λb z=>by rcases b with⟨z|o,n⟩<;>rfl
 unfold Cn ye;rw[e];simp only[vJ];rw[i6 l λb z=>by
  show(fA cS _ _).map _=_;rw[a5 _ (aP (aL (MF b) _ rr rr ((by rcases b with⟨z|o,n⟩<;>rfl:cI (MF b) (.int (-1))=sI b.2))) (aP rr rr)) (bc _ H9)];rfl];simp only[vJ];rw[q];simp only[vJ];rw[if_pos (by
  refine⟨by rw[vI];lia,by
   simp[cz,Lp],trivial,?_⟩;rw[uP];exact pairwise_map.mpr (List.Pairwise.imp (λh e=>h (Lq e)) c))];unfold eF;have O:((dm (λb=>bK (AL b)) l).map λb=>(AL b,MF b))=dm (λp=>bK p.1) (l.map λb=>(AL b,MF b)):=by
  refine hG _ (λx hx y w e=>?_) ((aA _ _).map _) ?_
  .grind[Lq]
  .exact pairwise_map.mpr (cZ _ _)
 rw[zip_map',<-O,uP];rfl
section
variable {ae:LD}(g:∀r∈ae,b8 r) (hl:ae.length<=30) (aa:Int) (hn:((aE (af ae aa)).map (ai 0)).Nodup)
include g hl hn
theorem AN (w:List Cl)(n:w.length<=60){M:Nat}{r:D}(U:ae[M]? = some r)(f:kindOf r∈cM)(F:aO r<=aa):fq [.tup ae,.int aa,.lst (w.map aK),.int M]=lT ((Pj (af ae aa) w r M).map MF):=by
 have h:=g r (vL U);have m:∀(z:DL.Env)(j:Nat),z[0]? = some (sT ae)->z[j]? = some (sI M)->fA bq (ao (f2 cI (ak 0) (ak j)) aw) z=sS (kindOf r):=λz j K P=>a5 [r] (aP (aL (.tup ae) (.int M) (by simp[K]) (by simp[P]) (by simp[bv U])) rr) (i7 h.c);have o:de [.tup ae,.int aa,.int M]=sO true:=by
  obtain⟨a,k,aj,rfl,d⟩:=id h;rw[lw U aa,qV (show a<=aa from F)]
 have i:cJ [.tup ae,.int aa,.int M]=sO (decide _):=ah rr (am (bQ (p:=true) (a5 [.tup ae,.int aa,.int M] rr o) λy=>aL (.str (kindOf r)) (.tup ([("paper" : Str),"like","copy"].map .str)) (m _ 2 rr rr) rr (eK _ _)));have R:gg [.tup ae,.int aa,.int M]=sO true:=by
  refine(ah rr (am (kW (a5 [.tup ae,.int aa,.int M] rr (nu U h)) λy=>a5 [.tup ae,.int aa,.int M] rr i))).trans ?_;rw[qV F,Bool.true_and];have:∀k∈cM,(decide (k = "leave") || decide (k∈[("paper" : Str),"like","copy"]))=true:=s9
  unfold jY;rw[this _ f]
 have l:decide (kindOf r = "copy")=false:=by
  have:∀k∈cM,decide (k = "copy")=false:=s9
  exact this _ f
 have e:=Fz hl aa w r M;have q:aU ((AM (af ae aa) w r M).map MF)=true:=br λd S=>by obtain⟨b,y,rfl⟩:=vO S;exact Lo b
 refine ah rr (aq (bw (p:=true) (bC (a5 [.tup ae,.int aa,.int M] rr R))) (aq (aW (a:=kindOf r) (bb:=false) (m _ 3 rr rr) l) (bo ?_ q (am (Lr (b:=false) _ e (Ht hn w r M) rr)))));have s:=Ho g N9 aa hn w n U f;have V:=Hs g N9 aa U f;refine fH (b1:=true) (b2:=true) (a5 _ rr s) (a5 [.tup ae,.int aa,.int M] rr V) ?_;have O:=e;unfold AM at O |-;rw[uZ,vI,vI]at O;refine(if_pos (cD (by grind))).trans ?_;rw[uW,uP,uP];rfl
end
def Ls (K:KL)(c r:D):Bool:=decide (cm c=cm r) || (!decide (kindOf r = "copy") && (aE K).any λv=>decide (fT v &&& fT r=fT r) && cL (aN K) (ai 0 v) (ai 3 v) (cm c) (a6 c))
def C9 {a:Type}(l:List a)p f:((l.filter p).map f).any id=l.any λx=>p x && f x:=by
 simp
def ue (g:b8 r)(h:kindOf r = "call"):∃a d b,∃n:Nat,r=row a "call" [.int d,.str b,.int n]:=by
 obtain⟨a,k,aj,rfl,d⟩:=g;have c:k = "call":=h;clear h;cases d with
 |copy k M d b n=>subst c;exact⟨a,d,b,n,rr⟩
 |root=>exact d3 c
 |named=>exact d3 c
 |chosen=>exact d3 c
 |heir=>exact d3 c
 |three k M=>rcases M with rfl|rfl|rfl<;>exact d3 c
 |leave=>exact d3 c
 |paper k M=>rcases M with rfl|rfl<;>exact d3 c
def vh (b:LD)(k:Int)(M:Nat)(r:D)(a:Int)(c:D):Bool:=decide (kindOf c = "call") && (decide (eM 2 c=M) && (decide (a6 c<=a) && (gm b k c && Ls (af b k) c r)))
def Lu (e:f d=some (.str a,bb)):aY (f2 lD f (fS b)) d=some (!decide (a=b)):=by simp_all
section
variable {ae:LD}(g:∀r∈ae,b8 r) (hl:ae.length<=60) (aa:Int) (jl:(aN (af ae aa)).length<=60) (hn:((aE (af ae aa)).map (ai 0)).Nodup)
include g hl jl hn
theorem AQ {O M:Nat}{c r:D}(K:ae[O]? = some c)(f:ae[M]? = some r)(k:kindOf r∈bg)(w:Int):jS [.tup ae,.int aa,.lst ((aN (af ae aa)).map aK),.int O,.int M,.int w]=sO (vh ae aa M r w c):=by
 have e:=g c (vL K);have l:=bv K;have j:aY (f2 lD (fA bq (fV 6 aw)) (fS "call")) [sT ae,sI aa,sL ((aN (af ae aa)).map aK),sI O,sI M,sI w,some (c,false)]=some (!decide (kindOf c = "call")):=Lu (a:=kindOf c) (bb:=false) (a5 [c] rr (i7 e.c));refine ah rr (dz c (aL (.tup ae) (.int O) rr rr (by simp[l])) e.flat ?_);unfold vh;by_cases z:kindOf c = "call"
 .refine cX λZ g'=>?_;obtain⟨a,d,b,n,i⟩:=ue e z;apply g';have m:eM 2 c=(n:Int):=by rw[i];rfl
  have P:a6 c=d:=by rw[i];rfl
  have S:ay [c,.str "of"]=sI n:=by rw[i];rfl
  have o:bD [c]=sI d:=by
   have:=tQ e.c;unfold vc at this;rwa [if_neg (by unfold aH;rw[z];decide +kernel),P]at this
  have s:aY (f2 lD (fA ay (fV 6 (ao (fS "of") aw))) (ak 4)) [sT ae,sI aa,sL ((aN (af ae aa)).map aK),sI O,sI M,sI w,some (c,false)]=some (!decide ((n:Int)=M)):=bC (aL (.int n) (.int M) (a5 [c,.str "of"] rr S) rr q9);have t:aY (f2 NF (fA bD (fV 6 aw)) (ak 5)) [sT ae,sI aa,sL ((aN (af ae aa)).map aK),sI O,sI M,sI w,some (c,false)]=some (decide (w<d)):=bC (aL (.int d) (.int w) (a5 [c] rr o) rr rr);have U:=b7 j λZ=>b7 s λZ=>t;rw[m,P,qV z,Bool.true_and];rw[qV z]at U;by_cases F:(n:Int)=M
  .by_cases R:d<=w
   .rw[qV F,qV R,Bool.true_and,Bool.true_and];rw[qV F,yK N9]at U;exact aq U (am (bQ (a5 [.tup ae,.int aa,.int O] rr (tP ae (λr f=>(g r f).c.rp) N9 aa K)) λZ=>a5 _ rr (by
    have u:gI ae:=⟨hl,λr f=>(g r f).c⟩;have q:=g c (vL K);have l:=g r (vL f);have s:=bv K;have w:=bv f;have y:=Fu q (dD (.inr z));have J:=Fu l (dD (.inl k));have b:∀v∈aE (af ae aa),b8 v/\aH v=true:=λv R=>by
     obtain⟨x,hx,rfl⟩:=vO R;obtain⟨V,S⟩:=vN hx;exact⟨g _ (vL (aG V)),S⟩
    have A:(aE (af ae aa)).length<=60:=by
     unfold aE;rw[vI];exact vR (vM _ _) (vR (b9 ae aa) hl)
    have B:bD [c]=sI (a6 c):=by
     have:=tQ q.c;unfold vc at this;rwa [if_neg (by unfold aH;rw[z];decide +kernel)]at this
    have e:∀(h:OB),aY (f2 dL (ak 6) (fA ay (fV 5 (ao (fS "by") aw)))) [sT ae,sI aa,sL ((aN (af ae aa)).map aK),sI O,sI M,some (r,false),sS (cm c),h]=some (decide (cm c=cm r)):=λh=>bC (aL (.str (cm c)) (.str (cm r)) rr (a5 [r,.str "by"] rr J) H9);have i:∀(h:OB),aY (f2 dL (fA bq (fV 5 aw)) (fS "copy")) [sT ae,sI aa,sL ((aN (af ae aa)).map aK),sI O,sI M,some (r,false),sS (cm c),h]=some (decide (kindOf r = "copy")):=λh=>aW (a:=kindOf r) (bb:=false) (a5 [r] rr (i7 l.c)) rr;refine ah rr (dz r (aL (.tup ae) (.int M) rr rr (by simp[w])) l.flat (dz (.str (cm c)) (a5 [c,.str "by"] (aP (aL (.tup ae) (.int O) rr rr (by simp[s])) rr) y) rr ?_));unfold Ls;cases V:decide (cm c=cm r) with
    |true=>exact aR ((e none).trans (by rw[V])) (am rr)
    |false=>
     refine aq ((e none).trans (by rw[V])) ?_;cases S:decide (kindOf r = "copy") with
     |true=>exact aR ((i none).trans (by rw[S])) (am rr)
     |false=>
      have C:kindOf r∈cM:=by
       have E:=of_decide_eq_false S;have:∀L∈bg,L ≠ "copy"->L∈cM:=s9
       exact this _ k E
      have H:=y7 l C;refine aq ((i none).trans (by rw[S])) ?_;have N:=d8 (fi:=yj (fA iT (fV 0 (fV 1 aw)))) (nT:=1) (cap:=[5]) (tg:=eA 0) (c:=aY (fA jx (ao (fA ay (fV 0 (ao (fS "matters") aw))) (ao (fA ay (fV 1 (ao (fS "matters") aw))) aw)))) (fe:=ak 0)
       (ρ:=[sT ae,sI aa,sL ((aN (af ae aa)).map aK),sI O,sI M,some (r,false),sS (cm c),none]) (aE (af ae aa)) id (λv=>decide (fT v &&& fT r=fT r)) id
       (by show(fA iT _ _).bind _=_;rw[a5 [.tup ae,.int aa] rr (tX u aa),nn hn];simp) N9 λv R=>by
        obtain⟨W,d⟩:=b v R;exact⟨[some (v,false),some (r,false)],rr,bC (a5 [.int (fT v),.int (fT r)] (aC (a5 [v,.str "matters"] rr (Ft W d)) (aC (a5 [r,.str "matters"] rr H) rr)) (wZ _ _)),λZ=>⟨false,rr⟩⟩
      rw[map_id]at N;refine bo N (br λv R=>(b v (vN R).1).1.flat) (am ?_);have F:=gP (fi:=cY (ak 7)) (nT:=1) (cap:=[2,6,0,3]) (tg:=eA 0) (fe:=fA dN (fV 1 (fV 0 (fV 2 (ao (fA bD (ao (f2 cI (ak 3) (ak 4)) aw)) aw)))))
       (ρ:=[sT ae,sI aa,sL ((aN (af ae aa)).map aK),sI O,sI M,some (r,false),sS (cm c),lT ((aE (af ae aa)).filter λv=>decide (fT v &&& fT r=fT r))]) ((aE (af ae aa)).filter λv=>decide (fT v &&& fT r=fT r)) id (λv=>.bl (cL (aN (af ae aa)) (ai 0 v) (ai 3 v) (cm c) (a6 c)))
       H9 (vR (vM _ _) N9) λv R=>by
        refine cX λZ g'=>?_;obtain⟨W,d⟩:=b v (vN R).1;obtain⟨a,o,I,m,Q,rfl,Z,Z⟩:=ly W d;apply g';exact⟨[some (row a ("root" : Str) [.str o,.int m,.int Q,.str I],false),sL ((aN (af ae aa)).map aK),sS (cm c),sT ae,sI O],rr,false,a5 _ (aP rr (aP rr (aP rr (aC (a5 [c] (aP (aL (.tup ae) (.int O) rr rr (by simp[s])) rr) B) rr)))) (yz _ jl _ _)⟩
      refine(a5 [_] (aC F rr) ?_);show(xQ _).map _=_;rw[KP,Option.map_some,C9];rfl)))
   .rw[yK R,Bool.false_and,Bool.and_false];rw[qV F,qV (show w<d by lia)]at U;exact aR U (am rr)
  .rw[yK F,Bool.false_and];rw[yK F]at U;exact aR U (am rr)
 .rw[yK z,Bool.false_and];refine aR (b7 (p:=true) (q:=false) (j.trans (by rw[yK z];rfl)) λh=>by cases h) (am rr)
def jZ (ae:LD)(aa:Int)(M:Nat)(r:D)(a:Int):LN:=if aO r<=aa/\kindOf r∈bg then ((af ae aa).filter λx=>vh ae aa M r a x.1).map (·.2)else []
omit jl in
end
def cG:LS:=[("paper" : Str),"like","copy"]
noncomputable def Pk (w:Str):Bs->D
 | (some o,n)=>.tup [.str "office",.str o,.int n]
 | (none,n)=>.tup [.str w,.int n]
def TH (r:D):Str:=if kindOf r = "copy" then ("copy" : Str)else ("leave" : Str)
def xc {a:LD}(h:a.length<=n)b:de [.tup a,.int b,.int n]=sO false:=by
 refine ah rr (am (bQ (p:=false) (q:=false) (b1:=false) ?_ λz=>by cases z));have c:¬n<a.length:=N9
 exact(jw (p:=true) (z:=.int a.length) (b3:=false) (b4:=false) rr rr q9 q9 λy=>by simp[c])
def F0{i:Nat}(M:a[i]? = some r)(g:b8 r)(k:b[0]? = some (sT a))(o:b[j]? = some (sI i)):fA bq (ao (f2 cI (ak 0) (ak j)) aw) b=sS (kindOf r):=
 a5 _ (aP (aL (.tup a) (.int i) (by simp[k]) (by simp[o]) (by simp[bv M])) rr) (i7 g.c)
def oS{i:Nat}(M:a[i]? = some r)(g:b8 r)b:cJ [.tup a,.int b,.int i]=sO (decide (aO r<=b) && decide (kindOf r∈cG)):=
 ah rr (am (bQ (a5 _ rr (by
  obtain⟨b,k,aj,rfl,d⟩:=g;exact lw M _)) λz=>aL _ (.tup (cG.map _)) (F0 M g rr rr) rr (eK _ _)))
def AS{i:Nat}(M:b[i]? = some r)(g:b8 r)a:gg [.tup b,.int a,.int i]=sO (decide (aO r<=a) && decide (kindOf r∈bg)):=by
 refine(ah rr (am (kW (a5 _ rr (nu M g)) λz=>a5 _ rr (oS M g _)))).trans ?_;unfold jY;simp only[bg,cG];by_cases c:aO r<=a
 .simp[c]
 .simp[c]
def oV (a:LD)(b:Int)(r:D)(M n:Nat):Bool:=match a[n]? with
 |none=>false
 |some q=>(decide (aO q<=b) && decide (kindOf q∈cG)) && bX (q,n) (r,M)
def nv (g:b8 r)(h:kindOf r = "copy"):∃a d b,∃n:Nat,r=row a "copy" [.int d,.str b,.int n]:=by
 obtain⟨a,k,aj,rfl,d⟩:=g;have c:k = "copy":=h;clear h;cases d with
 |copy k M d b n=>subst c;exact⟨a,d,b,n,rr⟩
 |root=>exact d3 c
 |named=>exact d3 c
 |chosen=>exact d3 c
 |heir=>exact d3 c
 |three k M=>rcases M with rfl|rfl|rfl<;>exact d3 c
 |leave=>exact d3 c
 |paper k M=>rcases M with rfl|rfl<;>exact d3 c
def ug (h:kindOf r∈cG):aH r=false:=by
 have:∀k∈cG,decide (k = "root")=false:=s9
 exact this _ h
def Hu {k:LD}(g:∀r∈k,b8 r)(o:Int){M:Nat}{r:D}(U:k[M]? = some r)(c:kindOf r = "copy"):∃n:Nat,eM 2 r=n/\jR [.tup k,.int o,.int M]=lT ((if oV k o r M n=true then [((none,(n:Int)):Bs)]else []).map (Pk ("copy" : Str))):=by
 have e:=g r (vL U);obtain⟨a,d,b,n,F⟩:=nv e c;have i:aH r=false:=ug (by rw[c];decide +kernel);have P:ay [r,.str "of"]=sI n:=by rw[F];rfl
 refine⟨n,by rw[F];rfl,?_⟩;let E:DL.Env:=[sT k,sI o,sI M,sI n];refine ah rr (dz (.int n) (a5 [r,.str "of"] (aP (aL (.tup k) (.int M) rr rr (by simp[bv U])) rr) P) rr ?_);have O:bJ (aY (fA cJ (fV 0 (fV 1 (fV 3 aw))))) (aY (fA ir (fV 0 (fV 3 (fV 2 aw))))) E=some (oV k o r M n):=by
  unfold oV;cases w:k[n]? with
  |none=>
   have R:k.length<=n:=List.getElem?_eq_none_iff.mp w;exact aD (p:=false) (q:=false) (bC (a5 [.tup k,.int o,.int n] rr (ah rr (am (bQ (p:=false) (q:=false) (a5 [.tup k,.int o,.int n] rr (xc R o)) λz=>by cases z))))) λz=>by cases z
  |some q=>
   have f:=g q (vL w);exact aD (bC (a5 [.tup k,.int o,.int n] rr (oS w f o))) λh=>by
    rw[vC]at h;exact bC (a5 [.tup k,.int n,.int M] rr ( ah rr (am (aL _ _ (a5 _ rr (QM w f (ug (HN h.2)))) (a5 _ rr (QM U e i)) (aaZ _ _ _ _)))))
 cases K:oV k o r M n with
 |true=>
  rw[K]at O;rw[if_pos rr];exact aR O (am (a5 [.tup [.str "copy",.int n]] (aP (a5 [.str "copy",.int n] rr (bc _ H9)) rr) (bR _ H9)))
 |false=>
  rw[K]at O;rw[if_neg I9];exact aq O (am (a5 [] rr (bR _ H9)))
def oW (a:LD)(b:Int)(c:List Cl)(x:D×Nat):List Bs:=if kindOf x.1 = "copy" then (if oV a b x.1 x.2 (eM 2 x.1).toNat=true then [(none,eM 2 x.1)]else [])else Pj (af a b) c x.1 x.2
section
variable {ae:LD}(g:∀r∈ae,b8 r) (hl:ae.length<=30) (aa:Int) (hn:((aE (af ae aa)).map (ai 0)).Nodup)
include g hl hn
theorem Pl (k:List Cl)(U:k.length<=60){a:Nat}{r:D}(O:ae[a]? = some r)(e:kindOf r∈bg)(o:aO r<=aa):fq [.tup ae,.int aa,.lst (k.map aK),.int a]=lT ((oW ae aa k (r,a)).map (Pk (TH r))):=by
 have b:=g r (vL O);unfold oW TH;by_cases M:kindOf r = "copy"
 .rw[if_pos M,if_pos M];obtain⟨n,c,q⟩:=Hu g _ O M;rw[c];refine ah rr (aq (bw (p:=true) (bC (a5 _ rr ((AS O b _).trans (by simp_all))))) (aR (aW (F0 O b rr rr) (qV M)) (am (a5 _ rr q))))
 .rw[if_neg M,if_neg M];exact AN g hl _ hn k U O (by
    simp_all[bg,cM]) o
end
def TJ (e:f (iI g)=some (d,b))(k:h (g.set i (some (d,false)))=r):ce (Dl i f) h g=r:=by simp_all
def F3 (e:d[i]? = some (some (.dk f g,b))):qt i d=some (.rt (.dk f g) false):=by simp[e]
def kN (x:D×Nat):dH:=.inl (x.2:Int)
def uh (b:LD)(c a:Int)(x:D×Nat):Bool:=(gm b c x.1 && decide (a6 x.1<=a)) && (jZ b c x.2 x.1 a).isEmpty
def Pm {b:Type}(l:List b)(f:b->D):decide ((((l.map f).length:Nat):Int)=0)=l.isEmpty:=by
 cases l with
 |nil=>rfl
 |cons a l=>rfl
noncomputable def mn (b:LD)(c a:Int)(l:KL):KL:=l.filter λx=>decide (kindOf x.1∈bg) && uh b c a x
section
variable {ae:LD}(g:∀r∈ae,b8 r) (hl:ae.length<=30) (aa:Int) (hn:((aE (af ae aa)).map (ai 0)).Nodup)
include g hl hn
theorem TK (O:(aN (af ae aa)).length<=60){U:Nat}{r:D}(M:ae[U]? = some r)(d:kindOf r∈bg)(o:Int):o8 [.tup ae,.int aa,.lst ((aN (af ae aa)).map aK),.int U,.int o]=sO (uh ae aa o (r,U)):=by
 have f:=g r (vL M);have h:=by
  have:∀k∈bg,decide (k = "root")=false:=s9
  exact this _ d
 let E:DL.Env:=[sT ae,sI aa,sL ((aN (af ae aa)).map aK),sI U,sI o];have i:aY (fA jP (fV 0 (fV 1 (fV 3 aw)))) E=some _:=bC (a5 _ rr (tP ae (λr M=>(g r M).c.rp) N9 aa M));have j:aY (f2 NF (fA bD (ao (f2 cI (ak 0) (ak 3)) aw)) (ak 4)) E=some _:=bC (aL _ (.int o) (a5 [r] (aP (aL (.tup ae) (.int U) rr rr (by simp[bv M])) rr) (uc f h)) rr rr);have a:=b7 (bw i) λy=>j;have e:(!gm ae aa r || decide (o<a6 r)) = !(gm ae aa r && decide (a6 r<=o)):=by
  rw[Bool.not_and];congr 1;rw[<-decide_not];congr 1;rw[Int.not_le]
 rw[e]at a;unfold uh;cases b:(gm ae aa r && decide (a6 r<=o)) with
 |false=>
  rw[b]at a;exact ah rr (aR a (am rr))
 |true=>
  rw[b]at a;refine ah rr (aq a (am ?_));rw[<-Pm _ λn:Nat=>.int n];exact aL _ (.int 0) (a5 _ (aC (a5 _ rr ((by
   have h:=g r (vL M);have l:=bv M;have i:de [.tup ae,.int aa,.int U]=sO (decide (aO r<=aa)):=by
    obtain⟨a,k,aj,e,d⟩:=h;rw[e]at M;rw[show aO r=a by rw[e];rfl];exact lw M aa
   have j:∀q:DL.Env,q[0]? = some (sT ae)->q[2]? = some (sI U)->fA bq (ao (f2 cI (ak 0) (ak 2)) aw) q=sS (kindOf r):=λq F K=>a5 [r] (aP (aL (.tup ae) (.int U) (by simp[F]) (by simp[K]) (by simp[l])) rr) (i7 h.c);have m:io [.tup ae,.int aa,.int U]=sO (decide (aO r<=aa) && decide (kindOf r = "leave")):=ah rr (am (bQ (a5 [.tup ae,.int aa,.int U] rr i) λy=>aL (.str (kindOf r)) (.str "leave") (j _ rr rr) rr H9));have b:cJ [.tup ae,.int aa,.int U]=sF _:=ah rr (am (bQ (a5 [.tup ae,.int aa,.int U] rr i) λy=>aL (.str (kindOf r)) (.tup ([("paper" : Str),"like","copy"].map .str)) (j _ rr rr) rr (eK _ _)));have w:gg [.tup ae,.int aa,.int U]=sO (decide (aO r<=aa/\kindOf r∈bg)):=by
    refine(ah rr (am (kW (a5 [.tup ae,.int aa,.int U] rr m) λy=>a5 [.tup ae,.int aa,.int U] rr b))).trans ?_;congr 3;simp only[bg,mem_cons,not_mem_nil,or_false];by_cases z:aO r<=aa
    .simp[z]
    .simp[z]
   unfold jZ;by_cases hx:aO r<=aa/\kindOf r∈bg
   .rw[if_pos hx];refine ah rr (aq (bw (p:=true) (bC (a5 [.tup ae,.int aa,.int U] rr (by rw[w,qV hx])))) (am ?_));have n:=d8 (fi:=cY (fA fJ (fV 0 (fV 1 aw)))) (nT:=1) (cap:=[0,1,2,3,4]) (tg:=eA 0) (c:=aY (fA jS (fV 1 (fV 2 (fV 3 (fV 0 (fV 4 (fV 5 aw)))))))) (fe:=ak 0)
     (ρ:=[sT ae,sI aa,sL ((aN (af ae aa)).map aK),sI U,sI o]) (af ae aa) (λx=>.int x.2) (λx=>vh ae aa U r o x.1) (λx=>.int x.2)
     (by show(fA fJ _ _).bind _=_;rw[a5 [.tup ae,.int aa] rr (lq ae (λr M=>(g r M).c.rp) N9 aa)];rfl) (vR (b9 ae aa) N9) λx f=>by
      exact⟨_,rr,bC (a5 _ rr (AQ g N9 aa O hn (aG f) M hx.2 o)),λy=>⟨false,rr⟩⟩
    rw[uP];exact n
   .rw[if_neg hx];exact ah rr (aR (bw (p:=false) (bC (a5 [.tup ae,.int aa,.int U] rr (by rw[w,yK hx])))) (am (a5 [] rr (bR _ H9)))):mR [.tup ae,.int aa,.lst ((aN (af ae aa)).map aK),.int U,.int o]=lT ((jZ ae aa U r o).map λn:Nat=>.int n)))) rr) rr) rr H9
end
def nK (n:Nat):dH:=.inl (n:Int)
def QN:Nat->D:=λz=>.bl true
noncomputable def iZ (S:LN)(b:Bs):Bool:=b.1.isSome || S.any λn=>decide ((n:Int)=b.2)
noncomputable def dE (S:LN)(p:Nat×List Bs):LN:=if p.2.any (iZ S)=true then S++[p.1]else S
noncomputable def gM (l:List (Nat×List Bs)):LN:=l.foldl dE []
theorem AT n:∀S:LN,(bj (S.map nK) (S.map QN) (.inl n)).isSome=S.any λm=>decide (m=n)
 |[]=>rr
 |m::S=>by
  rw[uY,uY,bj,any_cons];by_cases h:m=n
  .simp_all[nK]
  .rw[if_neg (show ¬nK m=.inl n from λz=>h (Sum.inl.inj z)),yK h,AT n S];rfl
def Ly (a:decide (w=("office" : Str))=false)(S)b:rj [Pk w b,.dk (S.map nK) (S.map QN)]=sO (iZ S b):=by
 rcases b with⟨z|o,n⟩
 .refine ah rr (am (kW (b1:=false) (aL _ _ rr rr (by simp_all)) λz=>aL _ _ rr rr ?_));show some (D.bl _,false)=_;rw[AT]
 rfl
theorem Lz (h:m∈dE S p):m∈S\/m=p.1:=by
 grind[dE]
theorem qd:∀(l:List (Nat×List Bs))(S:LN)(m:Nat),m∈l.foldl dE S->m∈S\/m∈l.map (·.1)
 |[],_,_,h=>.inl h
 |p::l,S,m,h=>by
  rcases qd l _ m h with h|h
  .grind[Lz]
  .exact .inr (mZ _ h)
abbrev Rs:=Nat×Str×List Bs
noncomputable def TL (p:Rs):D:=.lst (p.2.2.map (Pk p.2.1))
def F4 (p:Rs):Nat×List Bs:=(p.1,p.2.2)
def L0 (l:List Rs)(x:l.length<=60)(W:∀p∈l,decide (p.2.1 = "office")=false)(X:∀p∈l,p.2.2.length<=100)(Z:(l.map (·.1)).Nodup):yt [.dk (l.map λp=>nK p.1) (l.map TL)]=sF (.dk ((gM (l.map F4)).map nK) ((gM (l.map F4)).map QN)):=by
 let E:LN->OB->OB->DL.Env:=λS M O=>[sF (.dk (l.map λp=>nK p.1) (l.map TL)),some (.dk (S.map nK) (S.map QN),true),M,O];have s:mL (l.map λp=>nK p.1) (l.map TL)=l.map λp=>.tup [.int (p.1:Int),TL p]:=by
  unfold mL;rw[zip_map',uP];rfl
 obtain⟨t,e,M,O,rfl⟩:=gH (tg:=HY [2,3]) (g:=KU) (λj w=>∃M O,w=E (gM ((l.take j).map F4)) M O) (l.map λp=>.tup [.int (p.1:Int),TL p]) (E [] none none) ⟨none,none,rr⟩ (by
  rintro j d w z ⟨M,O,rfl⟩;rw[vA]at z;obtain⟨p,D,rfl⟩:=oY z;have U:=vL D;have f:l.take (j+1)=l.take j++[p]:=by rw[take_add_one,D];rfl
  have K:gM ((l.take (j+1)).map F4)=dE (gM ((l.take j).map F4)) (F4 p):=by
   simp_all[gM]
  have c:p.1∉gM ((l.take j).map F4):=λr=>by
   have P:((l.take (j+1)).map (·.1)).Nodup:=List.Nodup.sublist (List.Sublist.map _ (take_sublist _ _)) Z;rw[f,uW,nodup_append]at P;rcases qd _ _ _ r with h|h
   .cases h
   .rw[uP]at h;exact P.2.2 _ h _ C_ rr
  have i:(gM ((l.take j).map F4)).length<=60:=by
   have:∀(q:List (Nat×List Bs))(S:LN),(q.foldl dE S).length<=S.length+q.length:=λq=>by
    induction q with
    |nil=>intro S;exact vT _
    |cons a q k=>
     intro S;refine vR (k _) ?_;unfold dE;split
     .rw[uZ,vE,length_nil,vE];lia
     .rw[vE];simp
   have R:=this ((l.take j).map F4) [];rw[vI,length_take,length_nil]at R;exact vR R N9
  generalize gM ((l.take j).map F4)=S at K c i;let F:DL.Env:=E S (sI (p.1:Int)) (some (TL p,false));have u:=gP (fi:=cY (ak 3)) (nT:=1) (cap:=[1]) (tg:=eA 0) (fe:=fA rj (fV 0 (fV 1 aw))) (ρ:=F) p.2.2 (Pk p.2.1) (λb=>.bl (iZ S b)) rr (by have:=X p U;lia) λb Y=>⟨[some (Pk p.2.1 b,false),sF (.dk (S.map nK) (S.map QN))],rr,false,a5 [Pk p.2.1 b,.dk (S.map nK) (S.map QN)] rr (Ly (W p U) S b)⟩;have m:aY (fA S2 (ao _ aw)) F=some (p.2.2.any (iZ S)):=bC (a5 [.lst (p.2.2.map λb=>.bl (iZ S b))] (aC u rr) (by
   simp));refine⟨F,E (dE S (F4 p)) (sI (p.1:Int)) (some (TL p,false)),rr,.inl (KO m (λh=>?_) λh=>?_),_,_,by rw[K]⟩
  .have V:nK p.1∉S.map nK:=λr=>by
    obtain⟨y,v,n⟩:=vO r;have:=Sum.inl.inj (show(Sum.inl (y:Int):dH)=Sum.inl (p.1:Int)from n);exact c (by rw[show p.1=y by lia];exact v)
   have o:w4 1 (ak 2) (fC (.bl true)) F=some (.nx (F.set 1 (some (.dk (cK (S.map nK) (nK p.1)) (cA (S.map nK) (S.map QN) (nK p.1) (.bl true)),true)))):=if_pos ⟨rr,be (by rw[vI];lia)⟩;rw[o];unfold cK cA dE;rw[if_neg V,if_neg V,if_pos (show(F4 p).2.any (iZ S)=true from h)];simp[F,E,F4,QN]
  .unfold dE;rw[if_neg (show ¬(F4 p).2.any (iZ S)=true by show ¬p.2.2.any (iZ S)=true;rw[h];decide)];rfl)
 rw[vI,take_length]at e;exact ah rr (aJ (ρ':=E [] none none) rr (aJ (lO (by show some (mL _ _)=_;rw[s]) e) (F3 (b:=true) rr)))
theorem xf:∀S:LN,wD (S.map nK)=some (S.map λ(n:Nat)=>(n:Int))
 |[]=>rr
 |n::S=>by
  show(wD _).map _=_;rw[xf S];rfl
theorem AU {b M:Type}(g:b->M)f x:∀l:List b,pC f (g x) (l.map g)=(pC (λa=>f (g a)) x l).map g
 |[]=>rr
 |y::r=>by
  rw[uY,pC,pC];split
  .rw[uY,AU g f x r]
  .rfl
theorem xg {b M:Type}(g:b->M)f:∀l:List b,dm f (l.map g)=(dm (λa=>f (g a)) l).map g
 |[]=>rr
 |x::l=>by
  show pC f _ (dm f _)=(pC _ x (dm _ l)).map g;rw[xg g f l,AU]
def AW n(S:LN):MA (.int n) (S.map λ(m:Nat)=>D.int m)=S.any λm=>decide (m=n):=by
 unfold MA;induction S with
 |nil=>rfl
 |cons m S M=>
  simp_all
def eO (a:LD)(b:Int)(x:D×Nat):List Bs:=oW a b (aN (af a b)) x
def ft (a:LD)(b c:Int):LN:=gM ((mn a b c (bp (af a b))).map λx=>(x.2,eO a b x))
def ja (S:LN):LD:=(qz (S.map λ(n:Nat)=>(n:Int))).map .int
def xh S(h:S.length<=60):iO [.lst (S.map λ(n:Nat)=>.int n)]=lT (ja S):=by
 have b:∀l:List _,iN (l.map λ(n:Nat)=>D.int n)=some (l.map λ(n:Nat)=>(n:Int)):=λl=>by
  induction l with
  |nil=>rfl
  |cons a l M=>simp_all[iN]
 show(iN _).bind _=_;rw[b,vJ,if_pos (by rw[vI];lia)];rfl
section
variable {ae:LD}(g:∀r∈ae,b8 r) (hl:ae.length<=30) (aa:Int) (hn:((aE (af ae aa)).map (ai 0)).Nodup) (ho:(bp (af ae aa)).length<=60)
include hl
theorem gp (b:Int):(ft ae aa b).length<=60:=by
 have:∀(q:List _)S,(q.foldl dE S).length<=S.length+q.length:=λq=>by
  induction q with
  |nil=>intro S;exact vT _
  |cons a q M=>
   intro S;refine vR (M _) ?_;unfold dE;split
   .rw[uZ,vE,length_nil,vE];lia
   .rw[vE];lia
 have c:=this ((mn ae aa b (bp (af ae aa))).map λx=>(x.2,eO ae aa x)) [];have k:(bp (af ae aa)).length<=30:=by
  unfold bp;rw[(aA _ _).length_eq];exact vR (vM _ _) (vR (b9 _ _) hl)
 have o:(mn ae aa b _).length<=30:=vR (vM _ _) k;rw[vI,length_nil]at c;exact vR c N9
include g hn ho
theorem qK (a:Int):iu [.tup ae,.int aa,.int a]=lT (ja (ft ae aa a)):=by
 have M:=(by
  have q:gI ae:=⟨N9,λr N=>(g r N).c⟩;obtain⟨s,U⟩:=Hm (ae:=ae) q aa ho;have t:fj [.tup ae,.int aa]=lT ((bp (af ae aa)).map λx=>.int x.2):=qH q aa;generalize u:aN (af ae aa)=cs at s U |-;have M:∀x∈bp (af ae aa),x∈af ae aa:=λx hx=>(vN ((aA _ _).mem_iff.mp hx)).1;have v:((bp (af ae aa)).map (·.2)).Nodup:=gn (ca ae aa);generalize bp (af ae aa)=O at ho t M v |-;let m:D×Nat->D:=λx=>.lst ((oW ae aa cs x).map (Pk (TH x.1)));let E:KL->OB->DL.Env:=λL i=>[sT ae,sI aa,sI a,sL (cs.map aK),some (.dk (L.map kN) (L.map m),true),i];obtain⟨Z,e,i,rfl⟩:=gH (tg:=eA 5) (g:=KS) (λj S=>∃i,S=E (mn ae aa a (O.take j)) i) (O.map λx=>.int x.2) (E [] none) ⟨none,rr⟩ (by
   rintro j d S V ⟨i,rfl⟩;rw[vA]at V;obtain⟨x,hx,rfl⟩:=oY V;have k:=M x (vL hx);have N:=aG k;have z:aO x.1<=aa:=HN (vN k).2;have A:=g x.1 (vL N);have B:O.take (j+1)=O.take j++[x]:=by rw[take_add_one,hx];rfl
   have w:mn ae aa a (O.take (j+1))=mn ae aa a (O.take j)++if(decide (kindOf x.1∈bg) && uh ae aa a x)=true then [x]else []:=by
    simp_all[mn,filter_cons]
   have l:x.2∉(mn ae aa a (O.take j)).map (·.2):=by
    have W:((O.take (j+1)).map (·.2)).Nodup:=List.Nodup.sublist (List.Sublist.map _ (take_sublist _ _)) v;rw[B,uW,nodup_append]at W;intro P;obtain⟨y,R,o⟩:=vO P;exact W.2.2 _ (uS ⟨y,(vN R).1,rr⟩) _ C_ o
   have p:(mn ae aa a (O.take j)).length<=60:=vR (vM _ _) (vR (List.length_take_le' _ _) ho);generalize mn ae aa a (O.take j)=L at w l p;let F:DL.Env:=E L (sI x.2);have C:aY (fA gg (fV 0 (fV 1 (fV 5 aw)))) F=some (decide (kindOf x.1∈bg)):=bC (a5 [.tup ae,.int aa,.int x.2] rr ((AS N A aa).trans (by simp_all)));have G:=aD C λh=>bC (f:=fA o8 (fV 0 (fV 1 (fV 3 (fV 5 (fV 2 aw)))))) (a5 _ rr (by rw[<-u];exact TK g hl aa hn (by rw[u];exact U) N (HN h) a));refine⟨F,E _ (sI x.2),rr,.inl (KO G (λh=>?_) λh=>?_),sI x.2,by rw[w]⟩
   .rw[if_pos h];have H:kindOf x.1∈bg:=N9
    have I:sY 4 (ak 5) (fA fq (fV 0 (fV 1 (fV 3 (fV 5 aw))))) F=some (.nx (F.set 4 (some (.dk (cK (L.map kN) (kN x)) (cA (L.map kN) (L.map m) (kN x) (m x)),true)))):=by
     have J:fA fq (fV 0 (fV 1 (fV 3 (fV 5 aw)))) (iI F)=some (m x,true):=a5 [.tup ae,.int aa,.lst (cs.map aK),.int x.2] rr (Pl g hl aa hn cs U N H z);show((fA fq _ (iI F)).bind _)=_;rw[J];simp only[vJ];exact if_pos (c:=(L.map kN).length<sizeLine) (be (by rw[vI];lia))
    rw[I];have X:kN x∉L.map kN:=λP=>by
     obtain⟨y,R,o⟩:=vO P;exact l (uS ⟨y,R,by have:=Sum.inl.inj (show(Sum.inl (y.2:Int):dH)=Sum.inl (x.2:Int)from o);lia⟩)
    unfold cK cA;rw[if_neg X,if_neg X];simp[F,E]
   .rw[h,if_neg I9,uQ];rfl)
  rw[vI,take_length]at e;exact ah rr (TJ (a5 [.tup ae,.int aa] rr s) (aJ (ρ':=E [] none) rr (aJ (lO (ds:=O.map λx=>.int x.2) (by show(fA fj _ _).bind _=_;rw[a5 [.tup ae,.int aa] rr t];rfl) e) (F3 (b:=true) rr)))):yr [.tup ae,.int aa,.int a]=sF (.dk ((mn ae aa a (bp (af ae aa))).map kN) ((mn ae aa a (bp (af ae aa))).map λx=>.lst ((oW ae aa (aN (af ae aa)) x).map (Pk (TH x.1))))));have c:=L0 ((mn ae aa a _).map λx=>(x.2,TH x.1,eO ae aa x)) (by rw[vI];exact vR (vM _ _) ho)
  (λp b=>by obtain⟨x,n,rfl⟩:=vO b;exact (by
   unfold TH;split
   .decide +kernel
   rfl:decide (TH _ = "office")=false)) (λp b=>by obtain⟨x,n,rfl⟩:=vO b;exact vR (by
   unfold eO oW;split
   .split
    .exact(by decide:1<=60)
    .exact uN _
   .unfold Pj;rw[(aA _ _).length_eq];exact Fz hl _ _ _ _) I9)
  (by rw[uP];exact List.Nodup.sublist (List.Sublist.map _ filter_sublist) (gn (ca ae aa)))
 rw[uP,uP,uP]at c;refine ah rr (am (a5 [_] (aC (a5 [_] (aC (a5 _ rr M) rr) c) rr) ?_));show(wD ((ft ae aa a).map nK)).bind _=_;rw[xf,vJ,if_pos (by grind[gp])];rfl
end
def rF (n:Nat)(S:LN):(S.any λm=>decide (m=(n:Int)))=decide (n∈S):=by
 grind
def L3 n(S:LN):Bz (.int n) (.lst (S.map λ(m:Nat)=>.int m))=sO (S.any λm=>decide (m=n)):=by
 simp only[Bz,gE,vJ];rw[if_pos ⟨rr,by
  simp⟩,AW]
def xi S:aU (ja S)=true:=br λd a=>by obtain⟨n,z,rfl⟩:=vO a;rfl
def CA S:aT 40 (.lst (ja S))=true:=by
 simp ;intro d a;obtain⟨n,z,rfl⟩:=vO a;simp
def oZ (b:LD)(a:Int):aE (af b a)=b.filter λv=>aH v && decide (aO v<=a):=by
 unfold aE af;rw[List.filter_filter];have:∀(l:List (D×Nat))(q:D->Bool),(l.filter λx=>q x.1).map _=(l.map _).filter q:=λl q=>by rw[List.filter_map];rfl
 refine(this _ λv=>aH v && decide (aO v<=a)).trans ?_;rw[List.zipIdx_map_fst]
def L4 (a)b:((aE (af a b)).map (ai 0)).Sublist (oQ a):=by
 rw[oZ];refine List.Sublist.map _ ?_;have:(a.filter λv=>aH v && decide (aO v<=b))=(a.filter aH).filter λv=>decide (aO v<=b):=by simp[Bool.and_comm]
 rw[this];exact filter_sublist
def iD (S:LN):LN:=dm (λn:Nat=>[(n:Int)]) S
def F5 S:ja S=(iD S).map λn=>.int n:=by
 simp[ja,qz,iD,xg]
def mf{S:LN}:m∈iD S↔m∈S:=(aA _ _).mem_iff
def PW (q:D)(x:Int×OI)(w:D):Prop:=∃a k d b,∃m:Nat,∃M,(k=("paper" : Str)\/k = "like")/\q=row a k (.int d::.str b::.int m::dY x::w::M)/\(w=.non\/∃s,w=.str s)
def y9 (r:D):Prop:=kindOf r=("paper" : Str)\/kindOf r = "like"->∃x w,PW r x w
inductive Pb (ae:List D):Nat->Nat->Nat->Prop
 |here (n:Nat) (r:D) (x:Int×Option Int) (w:D) (h:ae[n]? = some r) (p:PW r x w):Pb ae 0 n n
 |copy (k n m e:Nat) (a d:Int) (b:Str) (h:ae[n]? = some (row a ("copy" : Str) [.int d,.str b,.int m])) (p:Pb ae k m e):Pb ae (k+1) n e
def pend (a:LD):Nat->Nat->Nat
 |0,n=>n
 |k+1,n=>match a[n]? with
  |some r=>if kindOf r = "copy" then pend a k (eM 2 r).toNat else n
  |none=>n
def PW.nocopy (p:PW r x w):¬kindOf r = "copy":=by
 obtain⟨a,k,d,b,m,M,c,rfl,z⟩:=p;have:∀k:Str,k = "paper" \/ k = "like"->¬k = "copy":=by rintro k (rfl|rfl)<;>decide +kernel
 exact this k c
def Pb.to (p:Pb f k n e):∃r x w,f[e]? = some r/\PW r x w:=by
 induction p with
 |here n r x w h p=>exact⟨r,x,w,h,p⟩
 |copy k n m e a d b h p M=>exact M
def Pb.pend (p:Pb g k n e):∀f,k<=f->pend g f n=e:=by
 induction p with
 |here n r x w h p=>
  intro f z;cases f with
  |zero=>rfl
  |succ f=>unfold Lw.pend;rw[h];exact if_neg p.nocopy
 |copy k n m e a d b h p M=>
  intro f c;obtain⟨f,rfl⟩:∃j,f=j+1:=⟨f - 1,N9⟩;unfold Lw.pend;rw[h];exact(if_pos rr).trans (M f N9)
def SI (a:LD)(b:Int)(S:LN):Prop:=∀n∈S,∃r,a[n]? = some r/\aO r<=b/\kindOf r∈bg/\(kindOf r∈cG->∃k e,k<=S.length/\Pb a k n e)
section
variable {ae:LD}(g:∀r∈ae,b8 r) (gw:∀r∈ae,y9 r) (aa:Int)
include g gw
theorem Po {S:LN}(s:SI ae aa S){x:D×Nat}(hx:ae[x.2]? = some x.1)(Z:aO x.1<=aa)(f:kindOf x.1∈bg):SI ae aa (dE S (x.2,eO ae aa x)):=by
 unfold dE;split
 .rename_i o;intro n z;rcases mem_append.mp z with z|z
  .obtain⟨r,P,R,V,F⟩:=s n z;exact⟨r,P,R,V,λW=>by obtain⟨k,e,h,M⟩:=F W;exact⟨k,e,by rw[uZ];lia,M⟩⟩
  .cases uT z
   refine⟨x.1,hx,Z,f,λW=>?_⟩;by_cases U:kindOf x.1 = "copy"
   .obtain⟨a,d,b,m,X⟩:=nv (g _ (vL hx)) U;have i:eM 2 x.1=m:=by rw[X];rfl
    unfold eO oW at o;rw[if_pos U,i,Int.toNat_natCast]at o;cases K:oV _ _ _ _ m with
    |false=>rw[K]at o;cases o
    |true=>
     rw[K]at o;have O:=by
      have c:(S.any λn=>decide ((n:Int)=(m:Int)))=true:=by simpa [iZ]using o
      rw[rF]at c;exact HN c
     obtain⟨q,P,R,V,F⟩:=s m O;unfold oV at K;obtain⟨k,e,h,M⟩:=F (by
      simp_all)
     exact⟨k+1,e,by simp_all,.copy k _ m e a d b (by rw[hx,<-X]) M⟩
   .obtain⟨y,w,p⟩:=gw _ (vL hx) (by
     simp_all[cG])
    exact⟨0,x.2,uN _,.here _ _ _ _ hx p⟩
 .exact s
theorem F6:∀(l:KL)S,(∀x∈l,ae[x.2]? = some x.1/\aO x.1<=aa/\kindOf x.1∈bg)->SI ae aa S->SI ae aa ((l.map λx=>(x.2,eO ae aa x)).foldl dE S)
 |[],_,_,s=>s
 |x::l,S,h,s=>by
  obtain⟨a,b,c⟩:=h x (mX ..);exact F6 l _ (λy k=>h y (mZ _ k)) (Po g gw _ s a b c)
theorem ui a:SI ae aa (ft ae aa a):=by
 refine F6 g gw _ _ [] (λx hx=>?_) (λn c=>nomatch c);obtain⟨k,o⟩:=vN hx;have b:=(vN ((aA _ _).mem_iff.mp k)).1;exact⟨aG b,HN (vN b).2,HN (vC _ _ ▸ o).1⟩
end
def Pb.at_ (p:Pb f k n e):∃r,f[n]? = some r:=by
 cases p with
 |here n r x w h p=>exact⟨_,h⟩
 |copy k n m e a d b h p=>exact⟨_,h⟩
def PW.str (p:PW r x w):ay [r,.str "stretch"]=some (dY x,false):=by
 obtain⟨a,k,d,b,m,M,c,rfl,z⟩:=p;exact ba (i:=3) (by rcases c with rfl|rfl<;>exact cc) rr
def PW.box (p:PW r x w):IS r=false:=by
 obtain⟨a,k,d,b,m,M,c,rfl,z⟩:=p;rfl
def PW.st (p:PW r x w):cN r=x:=by
 obtain⟨a,k,d,b,m,M,c,rfl,z⟩:=p;unfold cN;have:∀k:Str,k = "paper" \/ k = "like"->¬k = "leave":=by rintro k (rfl|rfl)<;>decide +kernel
 rw[dC,if_neg (this k c)];exact rE rr
noncomputable abbrev bE (a:LD)(b:Nat)(r:D):DL.Env:=[sT a,sI b,some (r,false)]
section
variable {ae:LD}(g:∀r∈ae,b8 r)
include g
theorem TN {k n e:Nat}(p:Pb ae k n e)(z:Nat):∀(r:D)(o:Nat),ae[n]? = some r->k<o->∃q,ae[e]? = some q/\cy (aY (f2 dL (fA bq (fV 2 aw)) (fS "copy"))) km o (bE ae z r)=some (.nx (bE ae z q)):=by
 induction p with
 |here n q x w h p=>
  intro r o M K;obtain⟨o,rfl⟩:∃j,o=j+1:=⟨o - 1,N9⟩;cases h.symm.trans M
  refine⟨q,h,?_⟩;rw[cy,aW (a5 [q] rr (by
   obtain⟨a,k,d,b,m,M,c,rfl,y⟩:=p;exact c8 _ _ _)) (yK p.nocopy)]
 |copy k n m e a d b h p U=>
  intro r o M K;obtain⟨o,rfl⟩:∃j,o=j+1:=⟨o - 1,N9⟩;cases h.symm.trans M
  obtain⟨O,F⟩:=p.at_;obtain⟨q,P,R⟩:=U O o F N9;refine⟨q,P,?_⟩;have c:f2 cI (ak 0) (fA ay (fV 2 (ao (fS "of") aw))) (bE ae z (row a ("copy" : Str) [.int d,.str b,.int m]))=some (O,false):=aL _ (.int m) rr (a5 _ rr (ba (i:=2) cc rr)) (by simp[bv F]);have f:km _=some _:=eI c (g _ (vL F)).flat;rw[cy,aW (a5 _ rr (c8 _ _ _)) (qV rr)];rw[f];exact R
theorem Hv(p:Pb ae k n e)(c:k<=60):∃q x w,ae[e]? = some q/\PW q x w/\fK [.tup ae,.int n]=some (q,false):=by
 refine cX λz g'=>?_;obtain⟨r,M⟩:=p.at_;obtain⟨q,b,U⟩:=TN g p n r 1000 M N9;obtain⟨a,x,w,h,O⟩:=p.to;apply g';cases h.symm.trans b
 exact⟨q,x,w,b,O,ah rr (dz r (aL _ _ rr rr (by simp[bv M])) (g _ (vL M)).flat (aJ U (gy rr O.box)))⟩
end
def HZ (a:LD)(n:Nat):Bool:=match a[n]? with
 |some r=>decide (kindOf r∈cG)
 |none=>false
def UK (a:LD)(n:Nat):Int×OI:=cN (a.getD (pend a 60 n) .non)
def kq (b:LD)(c a:Int):LN:=((iD (ft b c a)).filter (HZ b)).filter λn=>j0 a (UK b n)
section
variable {ae:LD}(g:∀r∈ae,b8 r) (gw:∀r∈ae,y9 r) (hl:ae.length<=30) (aa:Int) (hn:((aE (af ae aa)).map (ai 0)).Nodup) (ho:(bp (af ae aa)).length<=60)
include g gw hl
theorem uj(h:n∈ft ae aa b)(c:HZ ae n=true):∃q x w e k,k<=60/\Pb ae k n e/\ae[e]? = some q/\PW q x w/\fK [.tup ae,.int n]=some (q,false)/\UK ae n=x:=by
 refine cX λy g'=>?_;obtain⟨r,D,K,P,F⟩:=ui g gw _ _ n h;apply g';unfold HZ at c;rw[D]at c;refine cX λy g'=>?_;obtain⟨k,e,o,M⟩:=F (HN c);have O:=gp hl aa b;obtain⟨q,x,w,z,U,a⟩:=Hv g M (vR o O);apply g';refine⟨q,x,w,e,k,vR o O,M,z,U,a,?_⟩;unfold UK;rw[M.pend 60 (vR o O),vF,z];exact U.st
include hn ho
theorem CC (o:Int):pU [.tup ae,.int aa,.int o]=lT ((kq ae aa o).map λ(n:Nat)=>.int (n:Int)):=by
  have M:=gp hl aa o;have S:(iD (ft ae aa o)).length<=60:=by unfold iD;rw[(aA _ _).length_eq];exact M
  have z:=d8 (fi:=cY (fA iu (fV 0 (fV 1 (fV 2 aw))))) (nT:=1) (cap:=[0,1]) (tg:=eA 0) (c:=aY (fA cJ (fV 1 (fV 2 (fV 0 aw))))) (fe:=ak 0)
    (ρ:=[sT ae,sI aa,sI o,none]) (iD (ft ae aa o)) (λ(n:Nat)=>.int (n:Int)) (HZ ae) (λ(n:Nat)=>.int (n:Int))
    (by show(fA iu _ _).bind _=_;rw[a5 [.tup ae,.int aa,.int o] rr (qK g hl aa hn ho o),F5];rfl) N9 λx hx=>by
      refine cX λy g'=>?_;obtain⟨r,z,F,K,V⟩:=ui g gw aa o x (mf.mp hx);apply g';have:=oS z (g _ (vL z)) aa;rw[qV F,Bool.true_and]at this;have e:HZ ae x=decide (kindOf r∈cG):=by unfold HZ;rw[z]
      rw[<-e]at this;exact⟨_,rr,bC (a5 [.tup ae,.int aa,.int x] rr this),λy=>⟨false,rr⟩⟩
  refine ah rr (bo z (br λd P=>by obtain⟨x,y,rfl⟩:=vO P;rfl) (am ?_));refine d8 (fi:=cY (ak 3)) (nT:=1) (cap:=[2,0]) (tg:=eA 0) (fe:=ak 0)
     _ (λ(n:Nat)=>.int (n:Int)) (λn=>j0 o (UK ae n)) (λ(n:Nat)=>.int (n:Int)) q9 (vR (vM _ _) N9) λn hn=>?_
  refine cX λy g'=>?_;obtain⟨F,K⟩:=vN hn;obtain⟨q,x,w,e,k,W,b,X,U,a,R⟩:=uj g gw hl aa (mf.mp F) K;apply g';refine⟨[sI n,sI o,sT ae],rr,bC (a5 [.int o,dY x] (aP rr (aP (a5 [q,.str "stretch"] (aP (a5 [.tup ae,.int n] rr a) rr) U.str) rr)) ?_),λy=>⟨false,rr⟩⟩;rw[R];exact yy _ _ _
end
end Lw
namespace Lw
open PySem DL L2
def Xd (d)r:mE (d::r) (some 1) none=r:=by
 simp[mE,HT.dP]
def AX a(n:Nat):mE a none (some n)=a.take n:=by
 simp[mE,HT.Ix,HT.Nc]
def F7{c:FE}{k:DL.Env}{x:D}{b:Bool}{z:OB}(M:c k=some (x,b))(o:a x=z):f1 a c k=z:=by unfold f1;rw[M];exact o
def AY (b:LS)aj:jr (b.map .str) aj=(b.zip aj).map λx=>.tup [.str x.1,x.2]:=by
 induction b generalizing aj with
 |nil=>rfl
 |cons a l M=>
  cases aj with
  |nil=>rfl
  |cons d r=>simp_all[jr]
def pe {a:Type}(l:List a):Wu [.lst (l.map λz=>.bl true)]=some (.bl true,false):=by
 simp
noncomputable def ul (c:Nat):Bool:=decide (97<=c) && decide (c<=122)
def AZ (c)a(h:a[0]? = some (some (.str ⟨#[c]⟩,false))):kF yO yO (fC (.str "a")) (ak 0) (fC (.str "z")) a=some (.bl (ul c),false):=by
 refine jw (b1:=false) (b2:=false) (b3:=false) ?_ ?_ ?_ (DY _ _) λy=>DY _ _
 .rfl
 .simp[h]
 rfl
noncomputable def qe (z:Str):Bool:=(decide (1<=z.length) && decide (z.length<=8)) && z.cps.toList.all ul
def Ba (z:Str):z.cps.toList.length=z.length:=by rfl
def l5 {z:Str}(h:qe z=true):lQ [.str z]=some (.bl true,false):=by
 unfold qe at h;rw[vC,vC]at h;obtain⟨⟨k,M⟩,o⟩:=h;have a:z.length<=sizeLine:=cD N9;refine ah rr (aq (b7 (p:=false) (q:=false) q9 λx=>bw (p:=true) (ci ((jw (y:=.int z.length) (z:=.int 8) (b2:=false) (b4:=false) (p:=true) (q:=true) rr (by simp[a]) rr N8 λx=>by simp;lia).trans rr))) (am (aQ (ds:=[.lst (z.cps.toList.map λc=>.bl (ul c))]) ?_ ?_)))
 .have:=gP (fi:=cY (ak 0)) (nT:=1) (cap:=[]) (tg:=eA 0) (ρ:=[some (.str z,false)]) z.cps.toList (λc=>.str ⟨#[c]⟩) _ (by simp[Hf]) (by rw[Ba];lia) λc x=>
   ⟨_,rr,false,AZ c _ (by simp[cR])⟩
  exact aC (b:=true) this rr
 simp_all
def xj(c:a<=d)(k:d<=b):mM [.int d,.int a,.int b]=some (.bl true,false):=by
 refine ah rr (am ((bQ (p:=true) (b1:=false) q9 λz=>(bQ (DX (p:=false) (b1:=false) q9) λz=>(jw (b4:=false) (p:=true) rr rr rr N8 λz=>by simp;lia).trans rr).trans rr).trans rr))
def xl(h:qe z=true):mN [.str z]=some (.bl true,false):=ah rr (am (aQ rr (l5 h)))
def CD {a:LS}(c:1<=a.length)(M:a.length<=8)(h:∀p∈a,qe p=true):iQ [.tup (a.map .str)]=some (.bl true,false):=by
 refine ah rr (aq (b7 (p:=false) q9 λx=>bw (ci ((jw (y:=.int a.length) (z:=.int 8) (b2:=false) (b4:=false) (p:=true) (q:=true) rr H9 rr N8 λx=>by simp;lia).trans rr))) (am (aQ ?_ (pe a))));have:=gP (fi:=cY (ak 0)) (nT:=1) (cap:=[]) (tg:=eA 0) (fe:=fA _ (ao (ak 0) aw)) (ρ:=[some (.tup (a.map .str),false)]) a (λp=>.str p) _ q9 N9 λp b=>
  ⟨_,rr,false,aQ (by simp[cR]) (xl (h p b))⟩
 exact aC this rr
def cq(h:decide (p=q)=b):aY (f2 dL (ak 0) (fC (.str q))) [some (.str p,false),some (v,false)]=some b:=by simp_all
def c2(h:(decide (p=q) || decide (p=r))=false):gK (aY (f2 dL (ak 0) (fC (.str q)))) (aY (f2 dL (ak 0) (fC (.str r)))) [some (.str p,false),some (v,false)]=some false:=(b7 (cq rr) λz=>cq rr).trans (by rw[h])
def c3(h:(decide (p=q) || (decide (p=r) || decide (p=t)))=false):gK (aY (f2 dL (ak 0) (fC (.str q)))) (gK (aY (f2 dL (ak 0) (fC (.str r)))) (aY (f2 dL (ak 0) (fC (.str t))))) [some (.str p,false),some (v,false)]=some false:=(b7 (cq rr) λz=>b7 (cq rr) λz=>cq rr).trans (by rw[h])
def c3t(h:(decide (p=q) || (decide (p=r) || decide (p=t)))=true):gK (aY (f2 dL (ak 0) (fC (.str q)))) (gK (aY (f2 dL (ak 0) (fC (.str r)))) (aY (f2 dL (ak 0) (fC (.str t))))) [some (.str p,false),some (v,false)]=some true:=(b7 (cq rr) λz=>b7 (cq rr) λz=>cq rr).trans (by rw[h])
def yA(a:(decide (p=("day" : Str)) || decide (p="since"))=false)(b:(decide (p="office") || (decide (p="by") || decide (p="person")))=true)(h:lQ [v]=some (.bl true,false)):dM [.str p,v]=some (.bl true,false):=ah rr (aq (c2 a) (aR ((b7 (cq rr) λz=>b7 (cq rr) λz=>cq rr).trans (by rw[b])) (am (aQ rr h))))
def Hw(h:iQ [v]=some (.bl true,false)):dM [.str "pieces",v]=some (.bl true,false):=ah rr (aq (c2 s9) (aq (c3 s9) (aq (cq s9) (aq (cq s9) (aq (cq s9) (aq (cq s9) (aq (cq s9) (aq (cq s9) (aR (cq s9) (am (aQ rr h)))))))))))
noncomputable def jk (z:Str):Bool:=MA (.str z) [.str "by",.str "person",.str "whom"]
def there:D->Bool
 |.non=>false
 |_=>true
@[simp] def aba:there .non=false:=rfl
@[simp] def abb (z:Str):there (.str z)=true:=rfl
@[simp] def abc (z:Int):there (.int z)=true:=rfl
@[simp] def abd (z:LD):there (.tup z)=true:=rfl
def Bb d(h:Gx d=false):mF d .non=some (.bl (there d),false):=by
 cases d<;>simp[there]at h |-
noncomputable def CF (l:List (Str×D)):LD:=(l.filter λx=>jk x.1 && there x.2).map (·.2)
structure Nm7 (zs:List Str):Prop where
 len:zs.length=7
 nd:zs.Nodup
 nm:∀z∈zs,qe z=true
noncomputable def off (a:LS)(k:Nat):Str:=a.getD (if k=0 then 5 else 6) ""
def L5(g:Nm7 k):¬off k 0=off k 2:=by
 obtain⟨l,o,z⟩:=g;match k,l with
 |[a,b,c,d,e,f,g],_=>
  intro h;have h:f=g:=h;simp_all
structure DeedG (zs:List Str)(k:Nat)(h:Int)(kind:Str)(aj:List D):Prop where
 parts:∃(parts:List Str)(ss:List Str),zy cE (.str kind)=some (.tup (parts.map .str),false)/\parts.length=aj.length/\(∀x∈parts.zip aj,dM [.str x.1,x.2]=some (.bl true,false))/\CF (parts.zip aj)=ss.map .str/\ss.length<=2/\∀s∈ss,s∈zs
 len:aj.length<=10
 flat:∀d∈aj,bi d=true/\Gx d=false
 day:(kind=("root" : Str)/\(k=0\/k=2)/\∃r,aj=.str (off zs k)::r)\/(kind≠("root" : Str)/\(∃(day:Int)(r:List D),aj=.int day::r/\day<=h/\0<=day/\(kind=("chosen" : Str)->∃a b c s,r=[a,b,c,.int s]/\day<=s))/\mK cE (.str kind) (.str "day")=some (.int 0,false))
def Bc (b:LS)(k:Nat)(r:D):Prop:=∃h a aj,r=row h a aj/\0<=h/\h<=9999/\DeedG b k h a aj
def yB (k q:Str):dL (.str k) (.str q)=some (.bl (decide (k=q)),false):=q9
noncomputable def xy0:D->{d//bi d=true}
 |.tup [_,.tup (.str _::.int d::_)]=>⟨.int d,rr⟩
 |_=>⟨.non,rr⟩
noncomputable def TQ (r:D):D:=(xy0 r).1
def Pq{aj:LD}(g:DeedG d k h a aj):bD [row h a aj]=some (TQ (row h a aj),false):=by
 rcases g.day with⟨e,z,r,rfl⟩|⟨e,⟨b,r,rfl,z⟩,c⟩
 .exact ah rr (aR (ci (fH (aQ rr (c8 _ _ _)) rr (by rw[yB,qV e]))) (am rr))
 .exact ah rr (aq (ci (fH (aQ rr (c8 _ _ _)) rr (by rw[yB,yK e]))) (am (aQ rr (ba c rr))))
def Hx r:bi (TQ r)=true:=(xy0 r).2
def Pr(g:Bc d k r):tF [r]=some (.bl true,false):=by
 obtain⟨h,a,aj,rfl,b,c,g⟩:=g;refine ah rr (aq (b7 (p:=false) (by rfl) λv=>by rfl) (am ((bQ (aQ (by rfl) ((ah rr (am (aQ rr (xj b c))):tE [.int h]=some (.bl true,false)))) λv=>(bQ (aQ (by simp[row,KY]) ((by
  obtain⟨c,z,o,D,r,v⟩:=g.parts;have M:(cE.lookup a).isSome=true:=by
   simp_all
  have w:=g.len;have O:f2 cI (ak 0) (fC (.int 0)) [some (.tup (.str a::aj),false)]=some (.str a,false):=by simp[B3]
  have U:=F7 (x:=.str a) (b:=false) O o;refine ah rr (aq (b7 (p:=false) (q:=false) H9 λv=>b7 (p:=false) (q:=false) (ci (b:=false) N8) λv=>bw (p:=true) (ci (b:=false) (aQ (aC O rr) H9))) (aq (b7 (p:=false) (q:=false) (ci (b:=false) (F7 (x:=.str a) (b:=false) O ?_)) λv=>ci (b:=false) (fH (x:=.int ((aj.length+1:Nat):Int)) (y:=.int (1+(c.length:Int))) (b1:=false) (b2:=false) H9 (fH (x:=.int 1) (y:=.int c.length) (b1:=false) (b2:=false) rr (aQ (aC U rr) H9) H9) ?_)) (am (aQ (ds:=[.lst ((c.zip aj).map λv=>.bl true)]) ?_ (pe _)))))
  .simp only[BV,M];rfl
  .simp;lia
  .have:=gP (fi:=Jy (f1 (zy cE) _) (Dz (ak 0) (iL (fC (.int 1))) kI)) (nT:=2) (cap:=[]) (tg:=HY [0,1]) (fe:=fA dM (ao (ak 0) (ao (ak 1) aw))) (c.zip aj) (λx=>.tup [.str x.1,x.2]) (λv=>.bl true)
    (by
     show(f1 (zy cE) _ _).bind _=_;rw[U];simp[Xd,AY]) (by rw[length_zip];lia) λx hx=>by
     exact⟨_,rr,false,aQ (by simp[cR]) (r x hx)⟩
   exact aC (b:=true) this rr:pQ [.tup (.str a::aj)]=some (.bl true,false)))) λv=>aQ rr (by
  have F:=Pq g;rcases g.day with⟨e,v,r,rfl⟩|⟨e,⟨w,r,rfl,U,d,O⟩,K⟩
  .exact ah rr ((λe=>Cw (b:=false) (aQ rr F) (Hx _) e) (aR (ci (b:=false) (fH (x:=.non) (y:=.non) rr rr (by simp[Gv]))) (am rr)))
  .refine ah rr ((λe=>Cw (b:=false) (aQ rr F) (Hx _) e) (aq (ci (b:=false) (fH (x:=.int w) (y:=.non) (b1:=false) rr rr (by simp[Gv]))) (aq ((aD (q:=false) (ci (b:=false) (fH (b2:=false) (aQ rr (c8 _ _ _)) rr (yB _ _))) λz=>?_).trans (by rw[Bool.and_false])) (am ?_))))
   .have z:=HN z;subst z;obtain⟨f,b,c,s,rfl,P⟩:=O rr;refine ci (b:=false) (fH (y:=.int w) (aQ rr (ba (i:=4) (yp s9) rr)) rr ?_);simp;lia
   .refine fH (x:=.int w) (y:=.int h) (b1:=false) (b2:=false) rr (by simp[row,B3]) ?_;simp;lia)).trans rr).trans rr)))
noncomputable def F8:D->Str
 |.tup [_,.tup (_::.str o::_)]=>o
 |_=>("" : Str)
def um(g:Bc d k r)(h:aH r=true):ay [r,.str "office"]=some (.str (F8 r),false)/\F8 r=off d k/\(k=0\/k=2):=by
 obtain⟨a,b,aj,rfl,z,z,g⟩:=g;have h:=HN h;subst h;rcases g.day with⟨z,c,r,rfl⟩|⟨e,z⟩
 .exact⟨ba (yp s9:mK cE (.str "root") (.str "office")=some (.int 0,false)) rr,rr,c⟩
 simp_all
def uo(g:Bc d k r):bq [r]=some (.str (kindOf r),false):=by
 obtain⟨a,b,aj,rfl,z⟩:=g;exact c8 _ _ _
def Pt k(a:LS):Bz (.str k) (.lst (a.map .str))=some (.bl (decide (k∈a)),false):=by
 simp only[Bz,gE,vJ,oC];rw[if_pos ⟨rr,by
  simp⟩]
def Bd (a:LS)(b:LD):Prop:=(b.length<=24/\Nm7 a)/\∀(j:Nat) r,b[j]? = some r->Bc a j r
def Bd.mem(g:Bd d a)(h:r∈a):∃k,Bc d k r:=by
 obtain⟨j,b⟩:=mem_iff_getElem?.mp h;exact⟨j,g.2 j r b⟩
theorem uq:∀(a M:LS){x:Str},x∈a.foldl jJ M->x∈M\/x∈a
 |[],M,x,h=>.inl h
 |y::a,M,x,h=>by
  rcases uq a _ h with h|h
  .rcases nU.mp h with h|h
   .exact .inl h
   simp_all
  simp_all
theorem nw:∀(a M:LS),M.Nodup->(a.foldl jJ M).Nodup
 |[],M,h=>h
 |y::a,M,h=>nw a _ (sn h y)
theorem ur(h:x∈ga a):x∈a:=by
 rcases uq a [] h with h|h
 .cases h
 .exact h
theorem ut:∀(l m:LS),l.Nodup->(∀x∈l,x∈m)->l.length<=m.length
 |[],m,_,_=>uN _
 |x::l,m,h,s=>by
  rw[nodup_cons]at h;have:=ut l _ h.2 λy a=>(List.mem_erase_of_ne (b:=x) (λe=>h.1 (by rw[<-e];exact a))).mpr (s y (mZ _ a));grind
def Hz {k:Nat}{r:D}(g:Bc e k r):∃q:LS,iS [r]=some (.lst (q.map .str),true)/\q.length<=2/\∀s∈q,s∈e:=by
 refine cX λv g'=>?_;obtain⟨h,o,aj,rfl,v,v,g⟩:=g;obtain⟨w,q,z,K,v,F,O,a⟩:=g.parts;apply g';have M:=d8 (fi:=cY (fA hZ (ao (ak 0) aw))) (nT:=2) (cap:=[]) (tg:=HY [0,1]) (c:=bJ (aY (f2 Bz (ak 0) (fC kX))) (aY (f2 mF (ak 1) (fC .non)))) (fe:=ak 1)
  (ρ:=[some (row h o aj,false),none]) (w.zip aj) (λx=>.tup [.str x.1,x.2]) (λx=>jk x.1 && there x.2) (·.2) (by
   have d:fA hZ (ao (ak 0) aw) [some (row h o aj,false),none]=_:=aQ rr ((by
    refine ah rr (am ?_);have k:Dz (f2 cI (ak 0) (fC (.int 1))) (iL (fC (.int 1))) kI [some (row h o aj,false)]=some (.tup aj,false):=by simp[row,KY,Xd]
    show(((f1 _ _ _).bind λx=>(Dz _ _ _ [some _]).bind _).map _)=_;rw[F7 (aQ rr (c8 h _ _)) z,k];simp[AY]:hZ [row h o aj]=some (.lst ((w.zip aj).map λx=>.tup [.str x.1,x.2]),true)));simp_all) (by
   have:=g.len;simp<;>lia) λx hx=>by
   have U:=(g.flat x.2 (of_mem_zip hx).2);refine⟨_,rr,aD (ci (b:=false) ?_) λv=>ci (b:=false) ?_,λv=>⟨false,?_⟩⟩
   .rfl
   .exact fH (x:=x.2) (y:=.non) (b1:=false) (b2:=false) (by simp[cR]) rr (Bb _ U.2)
   rfl
 refine⟨nX (ga q),ah rr (bo ?_ (cw q) (am ?_)),?_,?_⟩
 .exact F ▸ M
 .simp<;>lia
 .rw[(cf _).length_eq];exact vR (nV q) O
 .grind[ur,cf]
def HA {q:LD}(g:∀r∈q,∃k,Bc f k r)(X:q.length<=60)(O:f.length=7):∃n:Nat,ib [.tup q]=some (.int n,false)/\n<=7:=by
 obtain⟨S,e,o,v,rfl,w,M⟩:=gH (tg:=eA 2) (g:=qQ) (λi P=>∃(o:LS)(v:OB),P=[some (.tup q,false),some (.lst (o.map .str),true),v]/\o.length<=2*i/\∀z∈o,z∈f) q
  _ ⟨[],none,rr,C_,H9⟩ (by
   rintro i d P R ⟨o,v,rfl,w,M⟩;have Z:=(vV R).1;obtain⟨k,U⟩:=g d (vL R);obtain⟨F,V,c,a⟩:=Hz U;have K:(o.map D.str).length+(F.map D.str).length<=sizeLine:=cD N8;refine⟨_,[some _,some _,some (d,false)],rr,.inl ?_,o++F,some (d,false),rr,N8,?_⟩
   .have W:fA iS (ao (ak 2) aw) [some (.tup q,false),some (.lst (o.map .str),true),some (d,false)]=some _:=aQ (ds:=[d]) rr V;show J8 1 _ [some _,some _,some (d,false)]=_;simp only[J8,List.getElem?_cons_succ,List.getElem?_cons_zero,W,vJ];rw[if_pos ⟨trivial,cw F,K⟩];simp
   grind)
 refine⟨(ga o).length,ah rr (bo (ds:=[]) H8 rr (aJ (lO (ds:=q) (by simp[iI]) e) (am (F7 (b:=false) rr ?_)))),?_⟩
 .simp<;>lia
 .exact vR (ut (ga o) f (nw o [] nodup_nil) λz w=>M z (ur w)) (le_of_eq O)
def CH {k:LD}(g:Bd d k){i:Nat}(w:i<k.length):jO [.tup k,.int i]=some (.bl false,false):=by
 obtain⟨r,O⟩:∃r,k[i]? = some r:=⟨_,vU w⟩;have z:=bv O;have a:=g.1.1;have M:∀o:DL.Env,o[0]? = some (some (.tup k,false))->o[1]? = some (some (.int i,false))->f2 cI (ak 0) (ak 1) o=some (r,false):=λo D F=>by simp_all
 obtain⟨n,K,c⟩:=HA (λx hx=>g.mem (mem_of_mem_take hx)) N8 g.1.2.len;have U:=AX k (i+1);refine ah rr (aq (b7 (p:=false) (q:=false) (ci (b:=false) (by simp[qF];lia)) λ_=>bw (p:=true) (ci (b:=false) (aQ (ds:=[r]) (aC (M _ rr rr) rr) (Pr (g.2 i r O))))) (am ((kW (p:=false) (q:=false) (aQ (aC (b:=false) (by simp[AX]) (aC (M _ rr rr) rr)) ((by
  have A:=g.2 i r O;have m:=g.1.1;refine ah rr (am ((bQ (p:=aH r) (q:=false) (b1:=false) (fH (b1:=false) (b2:=false) (aQ (ds:=[r]) rr (uo A)) rr (yB _ _)) λy=>?_).trans (by rw[Bool.and_false])));obtain⟨n,a,K⟩:=um A y;have M:∀x∈k.take i,∃j,j<i/\Bc d j x:=λx hx=>by
   obtain⟨j,z⟩:=mem_iff_getElem?.mp hx;rw[List.getElem?_take]at z;split at z
   .rename_i o;exact⟨j,o,g.2 j x z⟩
   simp_all
  have F:=d8 (fi:=cY (ak 0)) (nT:=1) (cap:=[]) (tg:=eA 0) (c:=aY (f2 dL (fA bq (ao (ak 0) aw)) (fC _))) (fe:=fA ay (ao (ak 0) (ao (fC (.str "office")) aw))) (ρ:=[some (.tup (k.take i),false)]) (k.take i) (λx=>x) aH _ H9 N8 λx hx=>by
   obtain⟨j,z,U⟩:=M x hx;exact⟨_,rr,ci (b:=false) (fH (x:=.str (kindOf x)) (b1:=false) (b2:=false) (aQ (ds:=[x]) (by simp[cR]) (uo U)) rr (yB _ _)),λhx=>⟨false,aQ (by simp[cR]) (um U hx).1⟩⟩
  have v:hW [.tup (k.take i)]=some (.lst ((((k.take i).filter aH).map F8).map .str),true):=by
   rw[uP];exact ah rr (am F)
  refine fH (x:=.str (F8 r)) (b1:=false) (b2:=true) (aQ rr n) (aQ rr v) ?_;rw[Pt];congr 3;refine yK λs=>?_;obtain⟨x,hx,e⟩:=vO s;obtain⟨hx,f⟩:=vN hx;obtain⟨j,z,U⟩:=M x hx;obtain⟨_,h,t⟩:=um U f;rw[a,h]at e;have:=L5 g.1.2;lia:gd [.tup (k.take i),r]=some (.bl false,false)))) λ_=>fH (y:=.int 20) (b2:=false) (aQ (aC (b:=false) (by simp;exact U) rr) K) rr N8).trans rr)))
def Be {a:LD}(g:Bd f a)(o:aU a=true)(d:D)(c:d=.lst a\/d=.tup a):gz [d]=some (.tup a,false):=by
 have w:=g.1.1;obtain⟨q,e,v,rfl⟩:=o3 (tg:=eA 2) (g:=tG) _ (λi k=>∃v:Option _,k=[some (d,false),some (.tup a,false),v])
  _ ⟨none,rr⟩ (by
   rintro i k r ⟨v,rfl⟩;exact⟨_,_,rr,.inl (bP (ci (aQ rr (CH g r))) rr),some _,rr⟩)
 refine ah rr (aq (bw (p:=true) (ci (b:=false) (aQ (aC rr (aC (d:=.tup [.ty "list",.ty "tuple"]) (b:=false) H8 rr)) ?_))) (Cw (b:=false) (aQ rr ?_) (by simp[o]) (aJ (kU (gX (b:=false) q9 N9) e) (gy rr))))
 .rcases c with rfl|rfl<;>simp
 .rcases c with rfl|rfl<;>simp
end Lw
namespace Lw
open PySem PySem.Spec DL L2
section
variable {α:Type}{tg:FG}{g:FS}(F:α->D)
theorem iE (I:List α->DL.Env->Prop)l O(K:I [] O)(w:∀P x r o,l=P++x::r->I P o->∃M k,tg (F x) o=some M/\(g M=some (.nx k)\/g M=some (.ct k))/\I (P++[x]) k):∃k,fX tg g (l.map F) O=some (.nx k)/\I l k:=by
 have U:∀q P o,l=P++q->I P o->∃k,fX tg g (q.map F) o=some (.nx k)/\I l k:=by
  intro q;induction q with
  |nil=>intro P o e h;exact⟨o,rY ..,by rw[e,uQ];exact h⟩
  |cons x q b=>
   intro P o e h;obtain⟨M,k,R,z,S⟩:=w P x q o e h;obtain⟨a,c,V⟩:=b _ k (by rw[e,append_assoc];rfl) S;refine⟨a,?_,V⟩;rw[uY,p6,R,vJ];rcases z with z|z<;>rw[z]<;>exact c
 exact U l [] O rr K
theorem l7 c(I:DL.Env->Prop){d:D}{b:Bool}:∀(l:List α)(M:DL.Env),I M->(∀x∈l,∀r,I r->∃O,tg (F x) r=some O/\((c x=true/\g O=some (.rt d b))\/(c x=false/\∃a,I a/\(g O=some (.nx a)\/g O=some (.ct a))))) ->
  (l.any c=true/\fX tg g (l.map F) M=some (.rt d b))\/(l.any c=false/\∃a,I a/\fX tg g (l.map F) M=some (.nx a))
 |[],M,o,_=>.inr ⟨rr,M,o,rY ..⟩
 |x::l,M,o,k=>by
  obtain⟨O,w,h⟩:=k x mX M o;rw[uY,p6,w,vJ,any_cons];rcases h with⟨q,h⟩|⟨q,a,z,h⟩
  .exact .inl ⟨by rw[q];rfl,by rw[h]⟩
  .rw[q];rcases h with h|h<;>rw[h]<;>exact l7 c I l a z λy K=>k y (mZ _ K)
end
def di{g:FS}{a:DL.Env}{ds:LD}{r:Option Res}(e:b (iI a)=some ds)(k:fX c g ds a=r):zc b c g a=r:=by
 show(b _).bind _=_;rw[e];exact k
def c9 {a:DL.Env}{i:Nat}{c:LD}{b:Bool}(h:a[i]? = some (some (.tup c,b)))(j:Nat){d:D}(e:c[j]? = some d):bF i j a=some (d,false):=by simp[h,bv e]
def fM{x:Nat}{a:Int}{k:Str}{aj:LD}{c:DL.Env}{f g:FE}(M:f c=sL b)(o:g c=sI x)(h:b[x]? = some (row a k aj)):f2 cI (f2 cI f g) (fI 1) c=sT (.str k::aj):=
 aL (row a k aj) _ (aL _ _ M o (by simp[bv h])) rr rr
section
variable {ae:LD}(g:∀r∈ae,b8 r) (aa:Int)
include g
theorem xm (p:Str)(o:Int):lV [.lst ae,.int aa,.str p,.int o]=sO (jj ae aa p o):=by
 let c:D->Bool:=λr=>decide (aO r<=aa) && f8 cU p o r;have z:jj ae aa p o = !ae.any c:=by
  rw[Bool.eq_iff_iff,not_eq_true',any_eq_false];unfold jj lr af;rw[List.isEmpty_iff,filter_eq_nil_iff];refine⟨λh r M w=>?_,λh x hx a=>?_⟩
  .obtain⟨n,K⟩:=mem_iff_getElem?.mp M;rw[vC]at w;exact h (r,n) (mem_filter.mpr ⟨List.mk_mem_zipIdx_iff_getElem?.mpr K,w.1⟩) w.2
  .obtain⟨P,R⟩:=vN hx;exact h x.1 (vL (List.mk_mem_zipIdx_iff_getElem?.mp P)) (by rw[vC];exact⟨R,a⟩)
 rcases l7 (tg:=HY [4,5]) (g:=C0) id c (λF=>∃O U,F=[sL ae,sI aa,sS p,sI o,O,U]) (d:=.bl false) (b:=false) ae _ ⟨none,none,rr⟩ (by
  rintro r M F ⟨O,U,rfl⟩;obtain⟨h,k,aj,rfl,d⟩:=g r M;have t:bJ (aY (f2 yO (ak 4) (ak 1))) (bJ (aY (f2 dL (bF 5 0) (fS "death"))) (bJ (aY (f2 dL (bF 5 2) (ak 2))) (aY (f2 yO (bF 5 1) (ak 3))))) [sL ae,sI aa,sS p,sI o,sI h,sT (.str k::aj)]=some (c (row h k aj)):=by
   refine aD (bC (aL (.int h) (.int aa) rr rr rr)) λy=>(aD (q:=m8 p o aj) (aW (c9 rr 0 rr) rr) λS=>?_).trans (congrArg (λb=>some (b && m8 p o aj)) (decide_eq_decide.mpr mem_singleton.symm));obtain⟨V,q,rfl⟩:=d.cd.deed.three (by rw[HN S];rfl);exact aD (bC (aL (.str q) (.str p) (c9 rr 2 rr) rr (yB _ _))) λy=>bC (aL (.int V) (.int o) (c9 rr 1 rr) rr rr)
  cases w:c (row h k aj) with
  |true=>exact⟨_,rr,.inl ⟨rr,cV (t.trans (congrArg some w)) (am rr)⟩⟩
  |false=>exact⟨_,rr,.inr ⟨rr,_,⟨_,_,rr⟩,.inl (bP (t.trans (congrArg some w)) rr)⟩⟩)with⟨ha,e⟩|⟨ha,ρ',⟨O,U,rfl⟩,e⟩
 .rw[z,ha];exact ah rr (He (di rr (by rw[map_id]at e;exact e)))
 .rw[z,ha];exact ah rr (aJ (di rr (by rw[map_id]at e;exact e)) (am rr))
end
def HB(k:bX a b=false)(o:bX c b=true):bX a c=false:=by
 unfold bX at *;grind
def Pu(k:bX a b=false)(o:bX b c=false):bX a c=false:=by
 unfold bX at *;grind
theorem j4:∀(r:KL)b,∀y∈b::r,bX (dA b r) y=false
 |[],b,y,a=>by
  rw[uT a];simp[dA,bX]
 |x::r,b,y,a=>by
  unfold dA;split
  .rename_i c;rcases vP a with rfl|a
   .exact HB (j4 r x x mX) c
   .exact j4 r x y a
  .rename_i c;have h:=j4 r b b mX;rcases vP a with rfl|a
   .exact h
   .rcases vP a with rfl|a
    .exact Pu h (eq_false_iff.mpr c)
    .exact j4 r b y (mZ _ a)
def F9 {l:KL}{b:D×Nat}(a:b∈l)(q:∀y∈l,bX b y=false)(w:∀y∈l,y.2=b.2->y=b):A9 l=some b:=by
 cases l with
 |nil=>cases a
 |cons x r=>
  have k:=j4 r x b a;have o:=q _ (lu r x);refine congrArg _ (w _ (lu r x) ?_);unfold bX at k o;grind
def uu K:(bp K).Pairwise λa b=>bX b a=false:=(cZ _ _).imp λ{a b} h=>by
 have:=oe _ _ _ (yw b a);rw[yK (show ¬bK _<bK _ from h)]at this;exact this
def fO{ae:LD}{aa:Int}:x∈bp (af ae aa)↔x∈af ae aa/\aH x.1=false:=by
 unfold bp;rw[(aA _ _).mem_iff,mem_filter,not_eq_true']
noncomputable abbrev qU (l:KL):LD:=l.map λx=>.int (x.2:Int)
def pf (p:Str)(a:Int)(P:KL):Bool:=match A9 (P.filter λx=>f8 cW p a x.1) with
 |none=>false
 |some b=>decide (kindOf b.1 = "lost")
section
variable {ae:LD}(g:∀r∈ae,b8 r) (aa:Int)
include g
theorem HC (p:Str)(b:Int):pf p b (bp (af ae aa)) = !oD ae aa p b:=by
 have O:∀x∈af ae aa,f8 cW p b x.1=true->∃h k d,x.1=row h k [.int d,.str p]/\k∈cW:=λx hx h=>by
  obtain⟨h,k,d,e,v,o,v⟩:=nc iW (g _ (vL (aG hx))).c.rp h;exact⟨h,k,d,e,o⟩
 have M:∀x,x∈(bp (af ae aa)).filter (λx=>f8 cW p b x.1)↔x∈lr ae aa cW p b:=λx=>by
  unfold lr;rw[mem_filter,mem_filter,fO];refine⟨λh=>⟨h.1.1,h.2⟩,λh=>⟨⟨h.1,?_⟩,h.2⟩⟩;obtain⟨a,k,d,e,o⟩:=O x h.1 h.2;rw[e];exact(by decide +kernel:∀k∈cW,decide (k = "root")=false) k o
 unfold pf oD;cases q:lr ae aa cW p b with
 |nil=>
  rw[show(bp (af ae aa)).filter (λx=>f8 cW p b x.1)=[]from List.eq_nil_iff_forall_not_mem.mpr λx hx=>by
   have:=(M x).mp hx;rw[q]at this;cases this]
  rfl
 |cons x l=>
  have D:dA x l∈lr ae aa cW p b:=q ▸ lu l x;have w:=vN D;rw[F9 ((M _).mpr D) (λy z=>j4 l x y (q ▸ (M y).mp z)) λy z=>oE (vN ((M y).mp z)).1 w.1];obtain⟨a,k,d,e,o⟩:=O _ w.1 w.2;show decide (kindOf (dA x l).1 = "lost") = !decide (kindOf (dA x l).1 = "found");rw[e];exact(by decide +kernel:∀k∈cW,decide (k = "lost") = !decide (k = "found")) k o
theorem qg {n:Nat}{a day:Int}{k p:Str}{q:LD}(f:ae[n]? = some (row a k (.int day::.str p::q))):fw [.lst ae,.int aa,.lst (qU (bp (af ae aa))),.int n]=sO (jj ae aa p day && oD ae aa p day):=by
 let E:Bool->OB->OB->DL.Env:=λb v w=>[sL ae,sI aa,sL (qU (bp (af ae aa))),sI n,sT (.str k::.int day::.str p::q),sO b,v,w];obtain⟨V,e,v,w,rfl⟩:=iE (tg:=eA 6) (g:=C1) (λx:D×Nat=>.int (x.2:Int)) (λP R=>∃v w,R=E (pf p day P) v w) (bp (af ae aa)) (E false none none) ⟨_,_,rr⟩ (by
  rintro P x r R U ⟨v,w,rfl⟩;have hx:=fO.mp (show x∈bp (af ae aa)from U ▸ by simp);have c:=aG hx.1;obtain⟨h,F,aj,M,K⟩:=g _ (vL c);have d:=pairwise_append.mp (U ▸ uu (af ae aa));rw[M]at c;have t:bJ (aY (f2 Bz (bF 7 0) (fA cS (ao (fS "lost") (ao (fS "found") aw))))) (bJ (aY (f2 dL (bF 7 2) (bF 4 2))) (aY (f2 yO (bF 7 1) (bF 4 1)))) (E (pf p day P) (sI x.2) (sT (.str F::aj)))=some (f8 cW p day x.1):=by
   rw[M];refine aD (q:=m8 p day aj) (bC (aL (.str F) (.tup (cW.map .str)) (c9 rr 0 rr) (a5 _ rr (bc _ I9)) (eK F cW))) λW=>?_;obtain⟨X,z,rfl⟩:=K.cd.deed.three (iW _ (HN W));exact aD (bC (aL (.str z) (.str p) (c9 rr 2 rr) (c9 rr 2 rr) (yB _ _))) λu=>bC (aL (.int X) (.int day) (c9 rr 1 rr) (c9 rr 1 rr) rr)
  have S:(P++[x]).filter (λx=>f8 cW p day x.1)=P.filter (λx=>f8 cW p day x.1)++if f8 cW p day x.1=true then [x]else []:=by
   rw[filter_append,filter_cons];rfl
  refine⟨_,E (pf p day (P++[x])) (sI x.2) (sT (.str F::aj)),rr,.inl (dz (.tup (.str F::aj)) (fM rr rr c) K.flat ?_),_,_,rr⟩;cases O:f8 cW p day x.1 with
  |false=>
   refine(bP (t.trans (congrArg some O)) ?_);unfold pf;rw[S,O,if_neg I9,uQ];rfl
  |true=>
   refine cV (t.trans (congrArg some O)) ?_;have Z:A9 ((P++[x]).filter λx=>f8 cW p day x.1)=some x:=by
    rw[S,if_pos O];refine F9 (mY _ mX) (λy o=>?_) λy o=>?_
    .rcases mem_append.mp o with o|o
     .exact d.2.2 y (vN o).1 x mX
     .rw[uT o];simp[bX]
    .rcases mem_append.mp o with o|o
     .exact oE (fO.mp (show y∈bp (af ae aa)from U ▸ mem_append_left _ (vN o).1)).1 hx.1
     .exact λu=>uT o
   rw[show pf p day (P++[x])=decide (F = "lost") by unfold pf;rw[Z];show decide (kindOf x.1=_)=_;rw[M];rfl];exact eI (aL (.str F) (.str "lost") (c9 rr 0 rr) rr (yB _ _)) rr)
 refine ah rr (dz (.tup (.str k::.int day::.str p::q)) (fM rr rr f) ?_ (dz (.bl false) rr rr (aJ (di rr e) (am ?_))))
 .obtain⟨_,_,_,M,K⟩:=g _ (vL f);cases M
  exact K.flat
 .refine(bQ (DX (p:=pf p day (bp (af ae aa))) rr) λu=>a5 [.lst ae,.int aa,.str p,.int day] (aP rr (aP rr (aP (c9 rr 2 rr) (aP (c9 rr 1 rr) rr)))) (xm g aa p day)).trans ?_;rw[HC g,not_not,Bool.and_comm]
end
def HD {b:Type}{R:b->b->Prop}{l:List b}{m:b}(h:l.Pairwise R)(e:l.getLast? = some m):∀y∈l,y=m\/R y m:=λy k=>by
 obtain⟨M,rfl⟩:∃M,l=M++[m]:=by
  cases l with
  |nil=>cases e
  |cons a r=>
   exact⟨_,by rw[<-vK e];exact(List.dropLast_concat_getLast H9).symm⟩
 rcases mem_append.mp k with c|c
 .exact .inr ((pairwise_append.mp h).2.2 y c m C_)
 .exact .inl (uT c)
def fz (a b:Cl):Prop:=a.s<b.s\/(a.s=b.s/\a.n<b.n)
instance (a b:Cl):Decidable (fz a b):=by unfold fz;infer_instance
noncomputable def kT (c:Cl):List At:=[.i c.s,.i c.n,.s c.p]
noncomputable def tL (c:Cl):LD:=[.int c.s,.int c.n,.str c.p]
def Pw a b:aX (kS a) (kS b)=some true↔fz a b:=by
 unfold kS fz;rw[OT];simp only[Option.some.injEq,decide_eq_true_eq];simp
theorem j5:∀r(b:Cl),∀y∈b::r,¬fz y (ky b r)
 |[],b,y,a=>by rw[uT a];unfold fz ky;simp
 |x::r,b,y,a=>by
  rw[ky];by_cases h:fz x b
  .rw[if_pos ((Pw x b).mpr h)];rcases vP a with rfl|a
   .have:=j5 r x x mX;unfold fz at *;grind
   .exact j5 r x y a
  .rw[if_neg λz=>h ((Pw x b).mp z)];rcases vP a with rfl|a
   .exact j5 r _ _ mX
   .rcases vP a with rfl|a
    .have:=j5 r b b mX;unfold fz at *;grind
    .exact j5 r b y (mZ _ a)
theorem j6:∀(r:List Cl)(b:Cl),∀y∈b::r,¬fz (ng b r) y
 |[],b,y,a=>by rw[uT a];unfold fz ng;lia
 |x::r,b,y,a=>by
  rw[ng];by_cases h:fz b x
  .rw[if_pos ((Pw b x).mpr h)];rcases vP a with rfl|a
   .have:=j6 r x x mX;unfold fz at *;grind
   .exact j6 r x y a
  .rw[if_neg λz=>h ((Pw b x).mp z)];rcases vP a with rfl|a
   .exact j6 r _ _ mX
   .rcases vP a with rfl|a
    .have:=j6 r b b mX;unfold fz at *;grind
    .exact j6 r b y (mZ _ a)
def TR a b(c:a.n≠b.n):aX (kT a) (kT b)=some (decide (fz a b)):=by
 unfold kT;by_cases e:a.s=b.s
 .rw[aX,if_pos e,aX,if_neg N9];congr 1;exact decide_eq_decide.mpr (by unfold fz;simp_all)
 .rw[aX,if_neg e];congr 1;exact decide_eq_decide.mpr (by unfold fz;simp_all)
def FC (c:List Cl):cz (c.map kT)=true:=by
 have h:∀a b,(aX (kT a) (kT b)).isSome=true:=λa b=>by
  unfold kT;rw[aX];split
  .rw[aX];split
   .rw[aX];split
    .rfl
    .rfl
   .rfl
  .rfl
 unfold cz;simp[h]
def B4 (M:List Cl):List Cl:=dm (λc=>bK (kT c)) M
def Bf(o:M.Pairwise λa b=>a.n≠b.n):(B4 M).Pairwise fz:=by
 have p:=aA (λc=>bK (kT c)) M;refine List.Pairwise.imp_of_mem ?_ ((cZ _ M).and ((List.Perm.pairwise_iff (λh e=>h e.symm) p.symm).mp o));rintro a b z z ⟨k,r⟩;have e:=oe _ _ _ (TR b a (Ne.symm r));rw[yK k]at e;unfold fz at *;grind
theorem uw:∀(b M:LS)z,z∈M\/z∈b->z∈b.foldl jJ M
 |[],M,z,h=>by rcases h with h|h;exact h;cases h
 |a::b,M,z,h=>by
  refine uw b _ z ?_;rcases h with h|h
  .exact .inl (nU.mpr (.inl h))
  .rcases vP h with h|h
   .exact .inl (nU.mpr (.inr h))
   .exact .inr h
def FD(h:c∈a):c.p∈jW a:=(cf _).mem_iff.mpr (uw _ _ _ (.inr (uS ⟨c,h,rr⟩)))
def Px(h:z∈jW a):∃c∈a,c.p=z:=by
 rcases uq _ _ ((cf _).mem_iff.mp h)with h|h
 .cases h
 .obtain⟨c,b,k⟩:=vO h;exact⟨c,b,k⟩
noncomputable def CJ (a p:Str)(S:List Cl):Bool:=match S with
 |[]=>false
 |b::r=>if a=("open" : Str)then (b::r).all λc=>decide (c.p=p)else if a=("last" : Str)then decide (((b::r).getLast H9).p=p)else decide (b.p=p)
def ux (a p:Str)(b:Cl)(r:List Cl):CJ a p (b::r)=if a=("open" : Str)then (b::r).all λc=>decide (c.p=p)else if a=("last" : Str)then decide (((b::r).getLast H9).p=p)else decide (b.p=p):=rfl
def LA (q p)n:gV (wP (.tup [.str "one",.str q,.int n])) (.tup [.str "one",.str p])=decide (q=p):=by
 show gV (.tup [.str _,.str q]) _=_;simp
def uy {U:List Cl}(F:U.Pairwise λa b=>a.n≠b.n)(o p:Str):gV (wP (kn o U)) (.tup [.str "one",.str p])=CJ o p (B4 U):=by
 cases U with
 |nil=>rfl
 |cons b r=>
  have w:(B4 (b::r)).Perm (b::r):=aA (λc=>bK (kT c)) (b::r);have k:=(by
   have p:(B4 _).Perm _:=aA _ (b::r);have k:=Bf F;cases o:B4 _ with
   |nil=>rw[o]at p;exact absurd p.length_eq H9
   |cons m l=>
    rw[o]at p k;rcases vP (p.mem_iff.mpr (oF r b))with h|h
    .rw[h];rfl
    .exact absurd ((pairwise_cons.mp k).1 _ h) (j5 r b m (p.mem_iff.mp mX)):(B4 (b::r)).head? = some (ky b r));have D:=(by
   have p:(B4 (b::r)).Perm _:=aA _ _;have M:B4 _≠[]:=λh=>by rw[h]at p;exact absurd p.length_eq H9
   have e:=List.getLast?_eq_some_getLast M;generalize (B4 _).getLast M=m at e;rw[e];rcases HD (Bf F) e _ (p.mem_iff.mpr (oG r b))with h|h
   .rw[h]
   .exact absurd h (j6 r b m (p.mem_iff.mp (List.mem_of_getLast? e))):(B4 (b::r)).getLast? = some (ng b r));generalize B4 (b::r)=S at w k D;cases S with
  |nil=>cases k
  |cons m l=>
   have R:m=ky b r:=vK k;have V:(m::l).getLast H9=ng b r:=by
    exact vK D
   rw[kn];unfold CJ;dsimp only;by_cases d:o=("open" : Str)
   .rw[if_pos d];by_cases k:1<(jW (b::r)).length
    .rw[if_pos ⟨k,d⟩];have:(m::l).all (λc=>decide (c.p=p))=false:=by
      rw[<-not_eq_true,all_eq_true];intro h;have W:∀z∈jW (b::r),z∈[p]:=λz X=>by
       obtain⟨c,q,rfl⟩:=Px X;exact mem_singleton.mpr (HN (h c (w.mem_iff.mpr q)))
      have:=ut _ _ ((show (jW (b::r)).Nodup from (cf _).nodup_iff.mpr (nw _ [] nodup_nil))) W;simp at this;lia
     rw[this];show gV (.tup [.str "parted",_]) (.tup [.str "one",.str p])=_;rfl
    .rw[if_neg λz=>k z.1,LA];have O:∀c∈b::r,c.p=(iA o b r).p:=λc q=>by
      have e:=FD q;have K:=FD (wO o b r);cases P:jW (b::r) with
      |nil=>rw[P]at e;cases e
      |cons z t=>
       rw[P]at k e K;cases t with
       |nil=>rw[uT e,uT K]
       |cons=>simp at k
     rw[Bool.eq_iff_iff,decide_eq_true_eq,all_eq_true];constructor
     .intro h c q;exact qV (by rw[O c (w.mem_iff.mp q),h])
     .intro h;rw[<-O m (w.mem_iff.mp mX)];exact HN (h m mX)
   .rw[if_neg λz=>d z.2,if_neg d,LA];unfold iA;by_cases M:o=("last" : Str)
    .rw[if_pos M,if_pos M,V]
    .rw[if_neg M,if_neg M,R]
@[simp] def xx13 (b:Str):gV .non (.str b)=false:=rfl
def Bg {c:Type}(b:List c):mr b (-1)=b.getLast?:=by
 rw[List.getLast?_eq_getElem?];unfold mr HX;cases b with
 |nil=>rfl
 |cons a l=>
  rw[if_neg I9,if_pos N8,vJ];congr 1;simp;lia
noncomputable def tD (c:Cl):D:=.tup (tL c)
def xn:D->D
 |.tup [_,d]=>d
 |_=>.non
abbrev rG (R:LD):LK:=R.map λv=>.inr (ai 0 v)
abbrev rH (R:LD):D:=.dk (rG R) (R.map xn)
theorem l8 {o:Type}[DecidableEq o]f(k:o):∀c b,bj c (b.map f) k=(bj c b k).map f
 |[],b=>by cases b<;>rfl
 |_::_,[]=>rr
 |a::c,v::b=>by
  rw[uY,bj,bj,l8 f k c b];split<;>rfl
def TU (v:D):Prop:=∃a o b,∃m:Nat,∃f:Int,v=row a ("root" : Str) [.str o,.int m,.int f,.str b]/\m∈MR
def Xe(e:bK (kT a)=bK (kT b)):a.n=b.n:=by
 have z:=lJ (FC [a,b]) C_ C_ e;injection z with _ z;injection z with z;lia
def Bh {o:Type}{l:List o}{F:o->D}{k:o->List At}(r:∀x∈l,zU (F x)=some (k x))(S:l.length<=60)(w:cz (l.map k)=true)(z:c6 (l.map k)=true)(q:(l.map λx=>bK (k x)).Nodup):lN [.lst (l.map F)]=lT ((dm (λx=>bK (k x)) l).map F):=by
 show(dQ _).bind _=_;rw[gh _ r,vJ,if_pos ⟨by rw[vI];lia,w,z,by rw[uP];exact q⟩];unfold eF;rw[zip_map'];have M:((dm (λx=>bK (k x)) l).map λc=>(k c,F c))=dm (λp=>bK p.1) (l.map λc=>(k c,F c)):=by
  refine hG _ (λx hx y K e=>?_) ((aA _ _).map _) (pairwise_map.mpr (cZ _ _));obtain⟨a,P,rfl⟩:=vO hx;obtain⟨b,R,rfl⟩:=vO K;rw[md _ q P R e]
 rw[<-M,uP];rfl
def yC(w:(s.map λc=>(c.o,c.n)).Nodup)o k:(ve s o k).Pairwise λa b=>a.n≠b.n:=by
 refine List.Pairwise.imp_of_mem ?_ ((pairwise_map.mp w).filter _);intro a b z D h e;have q:=(vN z).2;have r:=(vN D).2;simp [decide_eq_true_eq]at q r;exact h (by rw[q.1,r.1,e])
def Bi c(h:ρ[i]? = some (sF (aK c))):bF i 0 ρ=sS c.o/\bF i 1 ρ=sS c.p/\bF i 2 ρ=sI c.s/\bF i 3 ρ=sF (uD c.u)/\bF i 4 ρ=sI c.n:=⟨c9 h 0 rr,c9 h 1 rr,c9 h 2 rr,c9 h 3 rr,c9 h 4 rr⟩
noncomputable def iF (c:Cl)(a:Int):Bool:=match c.u with
 |none=>true
 |some x=>decide (a<x)
def ph (c:Cl)(a:Int){ρ:DL.Env}{f g:FE}(b:f ρ=sF (uD c.u))(M:g ρ=sI a):gK (aY (f2 Gw f (fC .non))) (aY (f2 Jg g f)) ρ=some (iF c a)/\gK (aY (f2 Gw f (fC .non))) (aY (f2 NF f g)) ρ=some (iF c a):=by
 unfold iF;cases k:c.u with
 |none=>rw[k]at b;exact⟨b7 (p:=true) (q:=true) (bC (aL .non .non b rr H9)) H9,b7 (p:=true) (q:=true) (bC (aL .non .non b rr H9)) H9⟩
 |some x=>
  rw[k]at b;have h:aY (f2 Gw f (fC .non)) ρ=some false:=bC (aL (.int x) .non b rr q9);exact⟨b7 (p:=false) h λz=>bC (aL (.int a) (.int x) M b rr),b7 (p:=false) h λz=>bC (aL (.int x) (.int a) b M rr)⟩
def Bj {so:List Cl}(F:so.length<=60)(G:(so.map λc=>(c.o,c.n)).Nodup){R:LD}(hR:∀v∈R,TU v)(o:Str)(Z:Int):∃d,fL [.lst (so.map aK),rH R,.str o,.int Z]=some (d,false)/\∀p,dL d (.str p)=sO ((bj (rG R) R (.inr o)).any λv=>cL so o (ai 3 v) p Z):=by
 let E:LD->OB->OB->DL.Env:=λt v w=>[sL (so.map aK),sF (rH R),sS o,sI Z,lT t,v,w];obtain⟨ρ',e,k,rfl⟩:=iE (tg:=eA 5) (g:=wK) aK (λP ρ=>∃v,ρ=E ((ve P o Z).map tD) v none) so (E [] none none) ⟨_,rr⟩ (by
  rintro P c r ρ H ⟨v,rfl⟩;obtain⟨I,J,q2,K,L⟩:=Bi c (ρ:=E ((ve P o Z).map tD) (sF (aK c)) none) (i:=5) rr;have t:bJ (aY (f2 dL (bF 5 0) (ak 2))) (bJ (aY (f2 yO (bF 5 2) (ak 3))) (gK (aY (f2 Gw (bF 5 3) (fC .non))) (aY (f2 Jg (ak 3) (bF 5 3))))) (E ((ve P o Z).map tD) (sF (aK c)) none)=some (decide (c.o=o) && dv c Z):=aD (bC (aL (.str c.o) (.str o) I rr (yB _ _))) λ_=>aD (bC (aL (.int c.s) (.int Z) q2 rr rr)) λ_=>(ph c Z K rr).1;have hf:ve (P++[c]) o Z=ve P o Z++if(decide (c.o=o) && dv c Z)=true then [c]else []:=by
   unfold ve;rw[filter_append,filter_cons];rfl
  have hl:(ve P o Z).length<=60:=vR (vM _ _) (by rw[H,uZ]at F;lia);refine⟨_,E ((ve (P++[c]) o Z).map tD) (sF (aK c)) none,rr,.inl ?_,_,rr⟩;rw[hf];cases hc:decide (c.o=o) && dv c Z with
  |true=>
   rw[if_pos rr,uW];exact cV (t.trans (congrArg some hc)) (dU (d:=tD c) (b:=false) rr (a5 (tL c) (aP q2 (aP L (aP J rr))) (bc _ (by simp[tL]))) rr (be (by rw[vI];lia)))
  |false=>
   rw[if_neg I9,uQ];exact bP (t.trans (congrArg some hc)) rr)
 have hl:(ve so o Z).length<=60:=vR (vM _ _) F;have hn:=yC G o Z;have hs:=(Bh (λ_ _=>rr) hl (FC (ve so o Z)) (by simp[c6,kT]) (List.Pairwise.map _ (λa b h e=>h (Xe e)) hn):lN [.lst ((ve so o Z).map tD)]=lT ((B4 (ve so o Z)).map tD));have A:=λrl p=>uy hn rl p;have pm:(B4 (ve so o Z)).Perm (ve so o Z):=aA (λc=>bK (kT c)) _;have fl:∀l:List Cl,aU (l.map tD)=true:=λl=>br λd hd=>by obtain⟨c,_,rfl⟩:=vO hd;rfl
 have go:∀ {T:FS}{d:D},T (E ((B4 (ve so o Z)).map tD) k none)=some (.rt d false)->ce (dq 4 (fA eE aw)) (ce (zc (cY (ak 0)) (eA 5) wK) (ce (dq 4 (fA lN (fV 4 aw))) T)) [sL (so.map aK),sF (rH R),sS o,sI Z,none,none,none]=some (.rt d false):=λN=>bo (a5 [] rr (bR _ H9)) rr (aJ (di rr e) (bo (a5 _ rr hs) (fl _) N));have f:∀l:List Cl,aT 40 (.lst (l.map tD))=true:=λl=>by
  show(l.map tD).all _=true;rw[all_eq_true];intro d hd;obtain⟨c,_,rfl⟩:=vO hd;rfl
 have B:∀ {ρ:DL.Env},ρ[1]? = some (sF (rH R))->ρ[2]? = some (sS o)->aY (f2 yg (ak 2) (ak 1)) ρ=some (!(bj (rG R) R (.inr o)).isSome)/\f2 Ou (ak 1) (ak 2) ρ=(bj (rG R) R (.inr o)).map λv=>(xn v,false):=λ{ρ} Y h2=>by
  have:=l8 xn (.inr o:dH) (rG R) R;simp[Y,h2,this,Option.map_map];rfl
 generalize B4 (ve so o Z)=S at *;have hv:∀p rl,cL so o rl p Z=CJ rl p S:=λp rl=>A rl p;simp only[hv];have j:∀l:List Cl,gV (.lst (l.map tD)) (.lst [])=l.isEmpty:=λl=>by cases l<;>rfl
 cases M:bj (rG R) R (.inr o) with
 |none=>
  refine⟨.non,ah rr (go (aR ((b7 (p:=true) (q:=true) ((B rr rr).1.trans (by rw[M];rfl)) λh=>by cases h)) (am rr))),λp=>by simp⟩
 |some v=>
  obtain⟨a,o',rl,Q,V,rfl,_⟩:=hR _ (lx M);have u:gK (aY (f2 yg (ak 2) (ak 1))) (aY (f2 dL (ak 4) (fA eE aw))) (E (S.map tD) k none)=some S.isEmpty:=(b7 (p:=false) (q:=S.isEmpty) ((B rr rr).1.trans (by rw[M];rfl)) λ_=>ci (b:=false) (fH (x:=.lst (S.map tD)) (y:=.lst []) (b1:=false) (b2:=true) rr (a5 [] rr (bR _ H9)) ((if_pos ⟨f _,rr⟩).trans (congrArg (λb=>sO b) (j _)))));have U:∀ {ρ:DL.Env},ρ[1]? = some (sF (rH R))->ρ[2]? = some (sS o)->∀z,aY (f2 dL (f2 cI (f2 Ou (ak 1) (ak 2)) (fI 4)) (fS z)) ρ=some (decide (rl=z)):=λY h2 z=>aW (bb:=false) (aL (.tup [.str "root",.str o',.int Q,.int V,.str rl]) (.int 4) ((B Y h2).2.trans (by rw[M];rfl)) rr rr) rr;show ∃d,_/\∀p,dL d (.str p)=sO (CJ rl p S);cases S with
  |nil=>exact⟨.non,ah rr (go (aR u (am rr))),λp=>by simp[CJ]⟩
  |cons m l=>
   let O:=(m::l).filter λc=>!decide (c.p=m.p);have C:gB (cY (ak 4)) 1 [4] (eA 0) (aY (f2 lD (bF 0 2) (f2 cI (bF 1 0) (fI 2)))) (ak 0) (E ((m::l).map tD) k none)=lT (O.map tD):=d8 (m::l) tD _ tD rr (by have:=pm.length_eq;lia) λc _=>⟨_,rr,bC (aL (.str c.p) (.str m.p) (c9 rr 2 rr) (aL (tD m) (.int 2) (aL (.lst ((m::l).map tD)) (.int 0) rr rr (by simp[B3])) rr rr) (by unfold lD;rw[if_pos ⟨rr,rr⟩,cu])),λ_=>⟨false,rr⟩⟩;have c2:bJ (aY (f2 lD (ak 6) (fA eE aw))) (aY (f2 dL (f2 cI (f2 Ou (ak 1) (ak 2)) (fI 4)) (fS "open"))) (E ((m::l).map tD) k (lT (O.map tD)))=some (!O.isEmpty && decide (rl = "open")):=aD (ci (b:=false) (fH (x:=.lst (O.map tD)) (y:=.lst []) (b1:=false) (b2:=true) rr (a5 [] rr (bR _ H9)) ((if_pos ⟨f _,rr⟩).trans (congrArg (λb=>sO (!b)) (j _))))) λ_=>U rr rr _;by_cases Y:(!O.isEmpty && decide (rl = "open"))=true
   .refine⟨.non,ah rr (go (aq u (bo C (fl _) (aR (c2.trans (congrArg some Y)) (am rr))))),λp=>?_⟩;rw[vC]at Y;rw[show CJ rl p (m::l)=false from ?_]
    .simp
    .rw[ux,if_pos (HN Y.2),<-not_eq_true,all_eq_true];intro h;have:O=[]:=filter_eq_nil_iff.mpr λc hc=>by
      rw[HN (h c hc),HN (h m mX)];simp
     rw[this]at Y;cases Y.1
   .have Y:=eq_false_iff.mpr Y;cases h2:decide (rl = "last") with
    |true=>
     refine⟨.str ((m::l).getLast H9).p,ah rr (go (aq u (bo C (fl _) (aq (c2.trans (congrArg some Y)) (aR ((U rr rr _).trans (congrArg some h2)) (am (aL (tD ((m::l).getLast H9)) (.int 2) (aL (.lst ((m::l).map tD)) (.int (-1)) rr rr ?_) rr rr))))))),λp=>(yB _ _).trans ?_⟩
     .show(mr _ (-1)).map _=_;rw[Bg,List.getLast?_map,List.getLast?_eq_some_getLast H9];rfl
     .have h2:=HN h2;rw[ux,if_neg (by rw[h2];decide +kernel),if_pos h2]
    |false=>
     refine⟨.str m.p,ah rr (go (aq u (bo C (fl _) (aq (c2.trans (congrArg some Y)) (aq ((U rr rr _).trans (congrArg some h2)) (am (aL (tD m) (.int 2) (aL (.lst ((m::l).map tD)) (.int 0) rr rr (by simp[B3])) rr rr))))))),λp=>(yB _ _).trans ?_⟩;rw[ux,if_neg (of_decide_eq_false h2)];split
     .rename_i W;rw[qV W,Bool.and_true,not_eq_false']at Y;have X:∀c∈m::l,c.p=m.p:=λc hc=>by
       have:=filter_eq_nil_iff.mp (List.isEmpty_iff.mp Y) c hc;simpa using this
      congr 3;rw[Bool.eq_iff_iff,decide_eq_true_eq,all_eq_true];exact⟨λh c hc=>qV (by rw[X c hc,h]),λh=>HN (h m mX)⟩
     .rfl
def Py (a:List Cl):Prop:=∀c∈a,∀x,c.u=some x->c.s<x
def Pz(b:∀x,c.u=some x->c.s<x)a:(dv c a || decide (a<c.s))=iF c a:=by
 unfold dv iF;cases k:c.u with
 |none=>dsimp ;lia
 |some x=>
  have:=b x k;rw[Bool.eq_iff_iff];simp [or_eq_true,decide_eq_true_eq];omega
def P0(b:∀x,c.u=some x->c.s<x)o p a:bT [o] p a c=if(decide (c.o=o) && (decide (c.p=p) && iF c a))=true then (if c.s<a then [⟨c.o,p,c.s,some a,c.n⟩]else [])else [c]:=by
 unfold bT;rw[Pz b,decide_eq_decide.mpr mem_singleton,<-Bool.not_and,<-Bool.not_and];cases decide (c.o=o) && (decide (c.p=p) && iF c a)<;>rfl
def FF a b M(p)c:a9 (a++b) M p c=a9 a M p c++a9 b M p c:=List.flatMap_append ..
def xo {D:List Cl}(O:D.length<=60)(Z:Py D)(o p:Str)(z:Int):lW [.lst (D.map aK),.str o,.str p,.int z]=lT ((a9 D [o] p z).map aK):=by
 let E:List Cl->OB->DL.Env:=λt v=>[sL (D.map aK),sS o,sS p,sI z,lT (t.map aK),v];obtain⟨A,e,w,rfl⟩:=iE (tg:=eA 5) (g:=C2) aK (λP R=>∃v,R=E (a9 P [o] p z) v) D (E [] none) ⟨_,rr⟩ (by
  rintro P c r R k ⟨v,rfl⟩;have S:=Z c (k ▸ by simp);have C:(a9 P [o] p z).length<=60:=vR (dh _ _ _ _) (by rw[k,uZ]at O;lia);have V:∀M:Cl,rX 4 (ak 5) (E (a9 P [o] p z) (sF (aK M)))=some (.nx (E (a9 P [o] p z++[M]) (sF (aK M)))):=λM=>by
   have:=dU (ρ:=E (a9 P [o] p z) (sF (aK M))) (i:=4) (f:=ak 5) (d:=aK M) (b:=false) rr rr (jy M) (be (by rw[vI];lia));rw[this];simp[E]
  obtain⟨l,m,W,U,q⟩:=Bi c (ρ:=E (a9 P [o] p z) (sF (aK c))) (i:=5) rr;have a:bJ (aY (f2 dL (bF 5 0) (ak 1))) (bJ (aY (f2 dL (bF 5 1) (ak 2))) (gK (aY (f2 Gw (bF 5 3) (fC .non))) (aY (f2 NF (bF 5 3) (ak 3))))) (E (a9 P [o] p z) (sF (aK c)))=some (decide (c.o=o) && (decide (c.p=p) && iF c z)):=aD (bC (aL (.str c.o) (.str o) l rr (yB _ _))) λY=>aD (bC (aL (.str c.p) (.str p) m rr (yB _ _))) λY=>(ph c z U rr).2;have h:=λM=>by
   obtain⟨Y,Y,W,U,Y⟩:=Bi M (ρ:=E (a9 P [o] p z) (sF (aK M))) (i:=5) rr;exact(ph M M.s U W).2
  rw[FF,show a9 [c] [o] p z=bT [o] p z c from uQ _,P0 S];cases F:decide (c.o=o) && (decide (c.p=p) && iF c z) with
  |false=>
   rw[if_neg I9];refine⟨_,_,rr,.inl (aJ (bP (a.trans (congrArg some F)) rr) (cV ((h c).trans (congrArg some ?_)) (V c))),_,rr⟩;unfold iF;cases B:c.u with
   |none=>rfl
   |some x=>exact qV (S x B)
  |true=>
   rw[if_pos rr];have j:c.p=p:=by
    simp only[vC,decide_eq_true_eq]at F;exact F.2.1
   have X:dq 5 (f2 Kb (Dz (ak 5) kI (iL (fI 3))) (fA cS (fV 3 (ao (bF 5 4) aw)))) (E (a9 P [o] p z) (sF (aK c)))=some (.nx (E (a9 P [o] p z) (sF (aK ⟨c.o,p,c.s,some z,c.n⟩)))):=eI (b:=false) (fH (x:=.tup [.str c.o,.str c.p,.int c.s]) (y:=.tup [.int z,.int c.n]) (b1:=false) (b2:=false) rr (a5 [.int z,.int c.n] (aP rr (aP q rr)) (bc _ H9)) (by rw[j];rfl)) rr;by_cases K:c.s<z
   .rw[if_pos K];exact⟨_,_,rr,.inl (aJ (cV (a.trans (congrArg some F)) X) (cV ((h _).trans (congrArg some (qV K))) (V _))),_,rr⟩
   .rw[if_neg K,uQ];exact⟨_,_,rr,.inl (aJ (cV (a.trans (congrArg some F)) X) (bP ((h _).trans (congrArg some (yK K))) rr)),_,rr⟩)
 exact ah rr (bo (a5 [] rr (bR _ H9)) rr (aJ (di rr e) (gy rr)))
def rJ(h:M∈bT A p d c):M.o=c.o:=by
 unfold bT at h;split at h
 .rw[uT h]
 .split at h
  .rw[uT h]
  .cases h
def yD(h:c.o∉A):bT A p d c=[c]:=by
 unfold bT;rw[yK h];rfl
def P1 a(p)d:a9 a [] p d=a:=by
 induction a with
 |nil=>rfl
 |cons c a M=>
  show bT [] p d c++a9 a [] p d=_;rw[M];rfl
theorem qh:∀ {l:List Cl},(∀c∈l,c.o≠o)->a9 l [o] p d=l
 |[],_=>rr
 |c::l,h=>by
  show bT _ p d c++a9 l _ p d=_;rw[qh λx hx=>h x (mZ _ hx),yD (by simpa using h c mX)];rfl
def P2 b(h:o∉A):a9 (a9 b A p d) [o] p d=a9 b (A++[o]) p d:=by
 unfold a9;rw[List.flatMap_assoc];congr 1;funext c;by_cases a:c.o∈A
 .rw[show bT (A++[o]) p d c=bT A p d c by unfold bT;rw[qV a,qV (mem_append_left _ a)]];exact qh λx hx=>by rw[rJ hx];exact λz=>h (z ▸ a)
 .rw[yD a,List.flatMap_singleton];unfold bT;rw[decide_eq_decide.mpr (show c.o∈A++[o]↔c.o∈[o] by simp[a])]
def kg (o p:Str)(d:Int)(c:Cl):Bool:=decide (c.o=o) && (decide (c.p=p) && dv c d)
def P4 b(h:o∉A):(a9 b A p d).any (kg o p d)=b.any (kg o p d):=by
 unfold a9;rw[List.any_flatMap];congr 1;funext c;by_cases a:c.o=o
 .rw[yD (a ▸ h)];simp
 .rw[show kg o p d c=false by unfold kg;rw[yK a];rfl,any_eq_false];intro x hx;unfold kg;rw[rJ hx,yK a];simp
def FH(h:Py b)(A)p d:Py (a9 b A p d):=λc k=>by
 obtain⟨M,o,a⟩:=mem_flatMap.mp k;unfold bT at a;split at a
 .rw[uT a];exact h M o
 .split at a
  .rename_i q;rw[uT a];intro x hx;cases hx
   exact q
  .cases a
section
variable (K:KL) (so:List Cl) (hk:List LK) (hv:LD) (p:Str) (d:Int) (n:Nat)
def uC (v:D):List Cl:=if so.any (kg (ai 0 v) p d)=true then cC K hk hv p d n (ai 0 v)else []
theorem rK(h:c∈uC K so hk hv p d n v):c.o=ai 0 v/\c.u=none:=by
 unfold uC cC at h;split at h
 .split at h
  .split at h
   .rw[uT h];exact⟨rr,rr⟩
   .cases h
  .cases h
 .cases h
def vi (P:LD):List Cl:=a9 so (P.map (ai 0)) p d++P.flatMap (uC K so hk hv p d n)
theorem Bk P:(vi K so hk hv p d n P).length<=so.length+P.length:=by
 unfold vi;rw[uZ];refine Nat.add_le_add (dh _ _ _ _) (oN _ (λv=>?_) P);unfold uC;split
 .exact jX ..
 .simp
theorem Bl (h:Py so)P:Py (vi K so hk hv p d n P):=λc a=>by
 rcases mem_append.mp a with a|a
 .exact FH h _ _ _ c a
 .obtain⟨v,_,hv⟩:=mem_flatMap.mp a;intro x hx;rw[(rK _ _ _ _ _ _ _ hv).2]at hx;cases hx
end
section
variable {ae:LD}(g:∀r∈ae,b8 r) (aa:Int) {so:List Cl}(hw:Py so) {R:LD}(hR:(R.map (ai 0)).Nodup) (hl:so.length+R.length<=60) (h0:R≠[]) {hk:List LK}{hv:LD}(UY:∀v∈hv,∃s,v=.str s)
include g hw hR hl h0 UY
theorem LF {n:Nat}{a d:Int}{p:Str}(H:ae[n]? = some (row a "death" [.int d,.str p])):tJ [.lst ae,.int aa,.lst (so.map aK),.dt hk hv,rH R,.int n]=lT ((vi (af ae aa) so hk hv p d n R).map aK):=by
 let C:=vi (af ae aa) so hk hv p d n;let E:LD->Bool->OB->OB->OB->DL.Env:=λP b v w x=>[sL ae,sI aa,some (.lst ((C P).map aK),b),sF (.dt hk hv),sF (rH R),sI n,sS "death",sI d,sS p,v,w,x];refine cX λ_ g'=>?_;obtain⟨ρ',e,b,I,l,O,rfl,hb⟩:=iE (tg:=eA 9) (g:=Hh) (λv=>.str (ai 0 v)) (λP ρ=>∃b v w x,ρ=E P b v w x/\(P≠[]->b=true)) R (E [] false none none none) ⟨_,_,_,_,rr,λh=>absurd rr h⟩ (by
  rintro P v r ρ m ⟨b,I,l,O,rfl,_⟩;let o:=ai 0 v;have k:o∉P.map (ai 0):=λh=>by
   rw[m,uW,uY,nodup_append]at hR;exact hR.2.2 _ h _ mX rr
  have J:P.length<=R.length:=by rw[m,uZ];simp
  have A:(C P).length<=60:=vR (Bk ..) N9;let U:Cl->Bool:=λc=>decide (c.o=o) && (decide (c.p=p) && decide (c.s<=d));let M:=((C P).filter U).filter λc=>iF c d;have S:((C P).filter U).length<=60:=vR (vM _ _) A;have K:gB (cY (ak 2)) 1 [9,8,7] (eA 0) (bJ (aY (f2 dL (bF 0 0) (ak 1))) (bJ (aY (f2 dL (bF 0 1) (ak 2))) (aY (f2 yO (bF 0 2) (ak 3))))) (ak 0) (E P b (sS o) l O)=lT (((C P).filter U).map aK):=d8 (C P) aK U aK rr N9 λc _=>by
   obtain⟨L,U,q2,_,_⟩:=Bi c (ρ:=[sF (aK c),sS o,sS p,sI d]) (i:=0) rr;exact⟨_,rr,aD (bC (aL (.str c.o) (.str o) L rr (yB _ _))) λ_=>aD (bC (aL (.str c.p) (.str p) U rr (yB _ _))) λ_=>bC (aL (.int c.s) (.int d) q2 rr rr),λ_=>⟨false,rr⟩⟩
  have c2:gB (cY (ak 10)) 1 [7] (eA 0) (gK (aY (f2 Gw (bF 0 3) (fC .non))) (aY (f2 Jg (ak 1) (bF 0 3)))) (ak 0) (E P b (sS o) (lT (((C P).filter U).map aK)) O)=lT (M.map aK):=d8 ((C P).filter U) aK _ aK rr N9 λc _=>⟨_,rr,(ph c d (Bi c (ρ:=[sF (aK c),sI d]) (i:=0) rr).2.2.2.1 rr).1,λ_=>⟨false,rr⟩⟩;have N:(!M.isEmpty)=so.any (kg o p d):=by
   have t:(C P).any (kg o p d)=so.any (kg o p d):=by
    show(a9 so _ p d++_).any _=_;rw[any_append,P4 so k,show(P.flatMap _).any _=false from ?_,Bool.or_false];rw[any_eq_false];intro c Z;obtain⟨w,u,Z⟩:=mem_flatMap.mp Z;unfold kg;rw[(rK _ _ _ _ _ _ _ Z).1,yK λ(z:ai 0 w=o)=>k (z ▸ uS ⟨w,u,rr⟩)];simp
   rw[<-t,Bool.eq_iff_iff,not_eq_true',List.isEmpty_eq_false_iff_exists_mem,any_eq_true];refine exists_congr λc=>?_;rw[mem_filter,mem_filter];unfold kg dv iF;simp only[U,vC];exact⟨λh=>⟨h.1.1,h.1.2.1,h.1.2.2.1,h.1.2.2.2,h.2⟩,λh=>⟨⟨h.1,h.2.1,h.2.2.1,h.2.2.2.1⟩,h.2.2.2.2⟩⟩
  let X:=a9 so (P.map (ai 0)++[o]) p d++P.flatMap (uC (af ae aa) so hk hv p d n);have B:C (P++[v])=X++uC (af ae aa) so hk hv p d n v:=by
   show vi _ _ _ _ _ _ _ _=_;unfold vi;rw[List.flatMap_append,uW,List.flatMap_singleton,<-append_assoc];rfl
  have V:X.length<=60:=by
   have Y:=Bk (af ae aa) so hk hv p d n (P++[v]);rw[show vi (af ae aa) so hk hv p d n (P++[v])=_ from B,uZ]at Y;have:(P++[v]).length<=R.length:=by rw[m];simp
   lia
  have hX:a9 (C P) [o] p d=X:=by
   show a9 (_++_) [o] p d=_;rw[FF,P2 so k,qh λc Z=>?_];obtain⟨w,u,Z⟩:=mem_flatMap.mp Z;rw[(rK _ _ _ _ _ _ _ Z).1];exact λz=>k (z ▸ uS ⟨w,u,rr⟩)
  let G:OB->DL.Env:=λw=>(E P b (sS o) (lT (M.map aK)) w).set 2 (lT (X.map aK));let W:D:=(bj hk hv [.inr o,.inr p]).getD .non;have j:(W=.non/\oM hk hv o p=none)\/∃s,W=.str s/\oM hk hv o p=some s:=by
   cases hq:bj hk hv [.inr o,.inr p] with
   |none=>exact .inl (by simp[W,oM,hq])
   |some w=>exact .inr ((UY w (lx hq)).imp λs h=>by simp[W,oM,hq,h])
  have go:∀ {T:FS}{res:Option Res},T (G (sF W))=res->ce (dq 10 _) (ce (dq 10 _) (ce (dq 2 (fA lW (fV 2 (fV 9 (fV 8 (fV 7 aw)))))) (ce (dq 11 (Cs (ak 3) (fV 9 (fV 8 aw)) (fC .non))) T))) (E P b (sS o) l O)=res:=λQ=>bo K (dB _) (bo c2 (dB _) (bo (ds:=X.map aK) (a5 [.lst ((C P).map aK),.str o,.str p,.int d] rr ((xo A (Bl _ _ _ _ _ _ _ hw P) o p d).trans (by rw[hX]))) (dB _) (dz W (if_pos (e:=none) (cD (n:=2) I9)) (by rcases j with h|⟨s,h⟩<;>rw[h.1]<;>rfl) Q)))
  have f:aY (f2 lD (ak 10) (fA eE aw)) (G (sF W))=some (so.any (kg o p d)):=by
   rw[<-N];refine ci (b:=false) (fH (x:=.lst (M.map aK)) (y:=.lst []) (b1:=false) (b2:=true) rr (a5 [] rr (bR _ H9)) ?_);unfold lD;rw[if_pos ⟨by
    show(M.map _).all _=true;rw[all_eq_true];intro d b;obtain⟨c,_,rfl⟩:=vO b;obtain⟨o,p,s,u,n⟩:=c;cases u<;>rfl,rr⟩];cases M<;>rfl
  have t:E (P++[v]) true (sS o) (lT (M.map aK)) (sF W)=(G (sF W)).set 2 (lT ((X++uC (af ae aa) so hk hv p d n v).map aK)):=by
   rw[<-B];rfl
  refine⟨_,E (P++[v]) true (sS o) (lT (M.map aK)) (sF W),rr,.inl (go ?_),true,_,_,_,rr,λ_=>rr⟩;rw[t,show uC (af ae aa) so hk hv p d n v=if so.any (kg o p d)=true then cC (af ae aa) hk hv p d n o else []from rr];cases ha:so.any (kg o p d) with
  |false=>
   rw[ha]at f;rw[if_neg I9,uQ];exact bP (aD (p:=false) (q:=false) f λh=>by cases h) rr
  |true=>
   rw[ha]at f;rw[if_pos rr];unfold cC;rcases j with⟨Y,h2⟩|⟨s,Y,h2⟩
   .rw[h2,Y,uQ];rw[Y]at f;exact bP (aD (p:=true) (q:=false) f λ_=>aD (p:=false) (q:=false) (bC (aL .non .non rr rr H9)) λh=>by cases h) rr
   .rw[h2,Y];rw[Y]at f;have F:bJ (aY (f2 mF (ak 11) (fC .non))) (aY (fA lV (fV 0 (fV 1 (fV 11 (fV 7 aw)))))) (G (sS s))=some (dX (af ae aa) s d):=aD (p:=true) (q:=dX (af ae aa) s d) (bC (aL (.str s) .non rr rr H9)) λ_=>bC (a5 [.lst ae,.int aa,.str s,.int d] rr (y4 ae aa s d ▸ xm g aa s d));dsimp only;cases hl:dX (af ae aa) s d with
    |false=>
     rw[if_neg I9,uQ];exact bP (aD (p:=true) (q:=false) f λ_=>F.trans (congrArg some hl)) rr
    |true=>
     rw[if_pos rr,uW];exact cV (aD (p:=true) (q:=true) f λ_=>F.trans (congrArg some hl)) (dU (d:=aK ⟨o,s,d,none,n⟩) (b:=false) rr (a5 [.str o,.str s,.int d,.non,.int n] rr (bc _ H9)) rr (be (by rw[vI];lia))))
 apply g';refine ah rr (aJ (show nR _ _ _=some (.nx (E [] false none none none))from ?_) (aJ (di (ds:=R.map λv=>.str (ai 0 v)) ?_ e) (gy (by rw[hb h0];rfl))))
 .show(f2 cI _ _ _).bind _=_;rw[fM rr rr H];have:C []=so:=by
   show a9 so [] p d++[]=so;rw[uQ];exact P1 so p d
  simp only[E,this];rfl
 .show some _=_;rw[uP];rfl
end
def fP (p:Str)(y:D×Nat):Bool:=decide (kindOf y.1 = "death") && decide (ai 1 y.1=p)
def ny(g:b8 r)p d:f8 cU p d r=(decide (kindOf r = "death") && (decide (ai 1 r=p) && decide (a6 r<=d))):=by
 obtain⟨h,k,aj,rfl,c⟩:=g;show(decide _ && m8 p d aj)=_;rw[decide_eq_decide.mpr (show k∈cU↔k = "death" from mem_singleton)];cases a:decide (k = "death") with
 |false=>rw[show decide (kindOf (row h k aj) = "death")=false from a];rfl
 |true=>
  obtain⟨b,q,rfl⟩:=c.cd.deed.three (by rw[HN a];rfl);rw[show decide (kindOf (row h k _) = "death")=true from a];rfl
section
variable {ae:LD}(g:∀r∈ae,b8 r) (aa:Int)
include g
theorem LG {l r:KL}{x:D×Nat}(d:bp (af ae aa)=l++x::r)(hx:kindOf x.1 = "death"):dW (af ae aa) (ai 1 x.1) (a6 x.1) x.2 = !(l.any (fP (ai 1 x.1))):=by
 have f:∀y∈af ae aa,b8 y.1:=λy o=>g _ (vL (aG o));have R:∀y,y∈l++x::r->y∈af ae aa:=λy o=>(fO.mp (d ▸ o)).1;have M:=R x H9;have S:=pairwise_append.mp (d ▸ uu (af ae aa));have w:∀ {y z:D×Nat},y∈af ae aa->z∈af ae aa->bX y z=false->bX z y=false->y=z:=λo X K F=>oE o X (by
  unfold bX at K F;simp only[decide_eq_false_iff_not]at K F;grind)
 have a:x∈(af ae aa).filter λy=>f8 cU (ai 1 x.1) (a6 x.1) y.1:=mem_filter.mpr ⟨M,by rw[ny (f x M)];simp[hx]⟩;unfold dW;cases e:(af ae aa).filter (λy=>f8 cU (ai 1 x.1) (a6 x.1) y.1) with
 |nil=>rw[e]at a;cases a
 |cons b q=>
  obtain⟨K,F⟩:=oP q b;rw[<-e]at K F;obtain⟨O,U⟩:=vN K;rw[ny (f _ O)]at U;simp only[vC,decide_eq_true_eq]at U;have i:pZ b q∈l++x::r:=d ▸ fO.mpr ⟨O,by show decide _=false;rw[U.1];decide +kernel⟩;show decide ((pZ b q).2=x.2)=_;rw[Bool.eq_iff_iff,decide_eq_true_eq,not_eq_true',any_eq_false];refine⟨λh y o P=>?_,λh=>?_⟩
  .have j:=oE O M h;have c:=R y (mem_append_left _ o);have k:=S.2.2 y o x mX;unfold fP at P;simp only[vC,decide_eq_true_eq]at P;have V:=F y (mem_filter.mpr ⟨c,by
    rw[ny (f y c)];unfold bX at k;simp only[decide_eq_false_iff_not]at k;lia⟩)
   rw[j]at V;have:=w c M V k;subst this;have W:=gn (ca ae aa);rw[d,uW,nodup_append]at W;exact W.2.2 _ (uS ⟨y,o,rr⟩) _ C_ rr
  .rcases mem_append.mp i with z|z
   .exact absurd (by unfold fP;simp[U]) (h _ z)
   .rcases vP z with z|z
    .rw[z]
    .rw[w O M ((pairwise_cons.mp S.2.1).1 _ z) (F x a)]
end
def xp {q M:List Cl}(w:M.Perm q)(O:(q.map λc=>(c.o,c.n)).Nodup)(o r p:Str)(k:Int):cL M o r p k=cL q o r p k:=by
 show gV (wP (kn r (ve M o k))) _=gV (wP (kn r (ve q o k))) _;rw[uy (yC ((w.map _).nodup_iff.mpr O) o k),uy (yC O o k)];congr 1;exact hG _ (λa z b D e=>md Cl.n (pairwise_map.mpr (yC O o k)) z D (Xe e)) ((aA _ _).trans (w.filter _)) (cZ _ _)
def nk(b:kindOf r=k)a(h:decide (k=a)=false:=by decide +kernel):¬kindOf r=a:=by rw[b];exact of_decide_eq_false h
section
variable (K:KL) (st:ME) {x:D×Nat}
def Ia (b:List Cl)(o M:Str)(a:Int):Bool:=(dR K o).any λv=>cL b o (ai 3 v) M a
theorem LH (a:kindOf x.1 = "named"):bL K st x=if(dR K (ai 1 x.1)).isSome=true then (st.1++[⟨ai 1 x.1,ai 2 x.1,a6 x.1,none,x.2⟩],st.2)else st:=by
 have e:bS K st.1 x=(dR K (ai 1 x.1)).isSome:=by
  unfold bS C6;rw[if_neg (nk a _),if_pos (by rw[a];decide +kernel),if_pos a];cases dR K _ with
  |none=>rfl
  |some v=>dsimp only;rw[if_pos a];rfl
 unfold bL;rw[e,if_pos a]
def ZF (x:D×Nat):Bool:=(dX K (ai 1 x.1) (a6 x.1) && m9 K (ai 1 x.1) (a6 x.1)) && Ia K st.1 (ai 2 x.1) (ai 1 x.1) (a6 x.1)
theorem FI (a:kindOf x.1 = "chosen" \/ kindOf x.1 = "heir")(c:cm x.1=ai 1 x.1)(M:∀v,dR K (ai 2 x.1)=some v->ai 0 v=ai 2 x.1):bS K st.1 x=ZF K st x:=by
 have b:kindOf x.1 ≠ "named":=by rcases a with e|e<;>rw[e]<;>decide +kernel
 unfold bS C6 ZF Ia;rw[if_neg (by rcases a with e|e<;>rw[e]<;>decide +kernel),if_pos (by rcases a with e|e<;>rw[e]<;>decide +kernel),if_neg b]
 cases O:dR K (ai 2 x.1) with
 |none=>simp
 |some v=>
  dsimp only;unfold tY;rw[if_neg b,M v O,c,show df (kindOf x.1)=true by rcases a with e|e<;>rw[e]<;>decide +kernel]
  rfl
theorem HF (a:kindOf x.1 = "chosen")(b:cm x.1=ai 1 x.1)(M:∀v,dR K (ai 2 x.1)=some v->ai 0 v=ai 2 x.1):bL K st x=if ZF K st x=true then (a9 st.1 [ai 2 x.1] (ai 1 x.1) (eM 4 x.1)++[⟨ai 2 x.1,ai 3 x.1,eM 4 x.1,none,x.2⟩],st.2)else st:=by
 unfold bL;rw[FI K st (.inl a) b M,if_neg (nk a _),if_pos a]
theorem P5 (a:kindOf x.1 = "heir")(b:cm x.1=ai 1 x.1)(M:∀v,dR K (ai 2 x.1)=some v->ai 0 v=ai 2 x.1):bL K st x=if ZF K st x=true then (st.1,cK st.2.1 [.inr (ai 2 x.1),.inr (ai 1 x.1)],cA st.2.1 st.2.2 [.inr (ai 2 x.1),.inr (ai 1 x.1)] (.str (ai 3 x.1)))else st:=by
 unfold bL;rw[FI K st (.inr a) b M,if_neg (nk a _),if_neg (nk a _),if_pos a]
theorem LJ (a:kindOf x.1 = "death"):bL K st x=if dW K (ai 1 x.1) (a6 x.1) x.2=true then (a9 st.1 (st.1.map Cl.o) (ai 1 x.1) (a6 x.1)++qT K st.1 st.2.1 st.2.2 (ai 1 x.1) (a6 x.1) x.2,st.2)else st:=by
 unfold bL bS;rw[if_pos a,if_neg (nk a _),if_neg (nk a _),if_neg (nk a _)]
theorem Xf (a:kindOf x.1 ≠ "death")(b:kindOf x.1∉qS):bL K st x=st:=by
 unfold bL bS;rw[if_neg a,if_neg b];rfl
end
def LL k p(d)o:o∈cF k p d↔k.any (kg o p d)=true:=by
 unfold cF;rw[(cf _).mem_iff,any_eq_true];refine⟨λh=>?_,λ⟨c,b,a⟩=>?_⟩
 .obtain⟨c,q,e⟩:=vO (ur h);obtain⟨b,a⟩:=vN q;exact⟨c,b,by unfold kg;rw[qV e];exact a⟩
 .unfold kg at a;rw[vC,decide_eq_true_eq]at a;exact uw _ _ _ (.inr (uS ⟨c,mem_filter.mpr ⟨b,a.2⟩,a.1⟩))
theorem qL {b M:Type}q(f:b->List M):∀l:List b,(l.flatMap λa=>if q a=true then f a else [])=(l.filter q).flatMap f
 |[]=>rr
 |a::l=>by
  rw[flatMap_cons,qL q f l,filter_cons];split<;>rfl
theorem LO:∀ {R:LD},bj (rG R) R (.inr o)=some v->ai 0 v=o
 |w::R,h=>by
  rw[show rG _=.inr _::rG R from rr,bj]at h;split at h
  .rename_i e;cases h
   injection e
  .exact LO h
theorem FJ:∀ {R:LD},(bj (rG R) R (.inr o)).isSome=decide (o∈R.map (ai 0))
 |[]=>rr
 |w::R=>by
  rw[show rG _=.inr _::rG R from rr,bj,uY];split
  .rename_i e;injection e with e;simp[e]
  .rename_i e;rw[FJ,decide_eq_decide.mpr];simp only[mem_cons];exact⟨.inr,λh=>h.resolve_left λz=>e (by rw[z])⟩
def UL:LS:=[("chosen" : Str),"heir"]
structure Rl (R:List D)(P:KL)(so:List Cl)(fB:List Str)(st:ME):Prop where
 pm:so.Perm st.1
 wl:Py so
 of:∀c∈so,c.o∈R.map (ai 0)
 bu:∀p,p∈fB↔P.any (fP p)=true
 bl:fB.length<=P.length
section
variable {ae:LD}(g:∀r∈ae,b8 r) (hl:ae.length<=30) (aa:Int) (hn:((aE (af ae aa)).map (ai 0)).Nodup) (h0:aE (af ae aa)≠[])
include g hl hn h0
theorem CL:∃so:List Cl,mT [.lst ae,.int aa,.lst (qU (bp (af ae aa))),rH (aE (af ae aa))]=lT (so.map aK)/\so.Perm (gQ (af ae aa) (bp (af ae aa))).1:=by
 generalize hR:aE (af ae aa)=R at *;generalize j:af ae aa=K at *;have J:∀v∈R,TU v:=λv hv=>by
  obtain⟨x,hx,rfl⟩:=vO (hR ▸ hv);obtain⟨h1,h2⟩:=vN hx;obtain⟨a,o,rl,m,f,e,hm,_⟩:=ly (g _ (vL (aG (j ▸ h1)))) h2;exact⟨a,o,rl,m,f,e,hm⟩
 have hRl:R.length<=30:=by
  rw[<-hR];unfold aE;rw[vI];exact vR (vM _ _) (vR (j ▸ b9 ae aa) hl)
 have F:∀o,dR K o=bj (rG R) R (.inr o):=λo=>hR ▸ (by
  unfold dR;rw[nn (hR ▸ hn)]);have ro:∀ {o v},dR K o=some v->ai 0 v=o:=λ{o v} h=>LO ((F o).symm.trans h);have rs:∀o,(dR K o).isSome=true->o∈R.map (ai 0):=λo h=>by rw[F,FJ]at h;exact HN h
 have Z4:∀ {o b:Str}{d:Int}{z:Bool}{so:List Cl},(z && Ia K so o b d)=true->o∈R.map (ai 0):=λ{o b d z so} h=>rs o (by
  rw[vC]at h;unfold Ia at h;cases G:dR K o with
  |none=>rw[G]at h;cases h.2
  |some v=>rfl)
 let E:List Cl->ME->LS->OB->OB->DL.Env:=λso st fB v w=>[sL ae,sI aa,sL (qU (bp K)),sF (rH R),lT (so.map aK),some (.dt st.2.1 st.2.2,true),lT (fB.map .str),v,w];refine cX λ_ g'=>?_;obtain⟨ρ',e,so,fB,v,w,rfl,L⟩:=iE (tg:=eA 7) (g:=fy) (λx:D×Nat=>.int (x.2:Int)) (λP ρ=>∃so fB v w,ρ=E so (gQ K P) fB v w/\Rl R P so fB (gQ K P)) (bp K) (E [] ([],[],[]) [] none none) ⟨[],[],_,_,rr,.refl _,λc h=>(by cases h),λc h=>(by cases h),λp=>by simp,C_⟩ (by
  rintro P ⟨r,n⟩ r' ρ H ⟨so,fB,v,w,rfl,L⟩;have hx:=fO.mp (show(r,n)∈bp (af ae aa) by rw[j,H];simp);have I:=aG hx.1;have gx:=g _ (vL I);have hPl:P.length<=30:=by
   have:=(aA (λx=>bK (kA x)) (K.filter λx=>!aH x.1)).length_eq;have h1:(bp K).length<=30:=vR (le_of_eq this) (vR (vM _ _) (vR (j ▸ b9 ae aa) hl));rw[H,uZ]at h1;lia
  obtain⟨dd,S⟩:=rA K P (by
   have:=gn (j ▸ ca ae aa);rw[H,uW,nodup_append]at this;exact this.1)
  have eP:gQ K (P++[(r,n)])=bL K (gQ K P) (r,n):=by unfold gQ;rw[List.foldl_append];rfl
  rw[eP];generalize gQ K P=st at *;have ls:so.length<=30:=by rw[L.pm.length_eq];have:=S.len;lia
  have nd:(so.map λc=>(c.o,c.n)).Nodup:=(L.pm.map _).nodup_iff.mpr S.nod;have N:∀ {o b:Str}{d:Int},(∃t,fL [.lst (so.map aK),rH R,.str o,.int d]=some (t,false)/\dL t (.str b)=sO (Ia K st.1 o b d)):=λ{o b d}=>by
   obtain⟨t,Q,e2⟩:=Bj (so:=so) N9 nd J o d;refine⟨t,Q,(e2 b).trans ?_⟩;unfold Ia;rw[F];congr 4;funext v;rw[xp L.pm S.nod]
  obtain⟨h,k,aj,rfl,dk⟩:=gx;have O:decide (k = "death")=false->∀p,p∈fB↔(P++[(row h k aj,n)]).any (fP p)=true:=λhd p=>by
   rw[any_append,L.bu,show [(row h k aj,n)].any (fP p)=false by simp[fP,dC,of_decide_eq_false hd],Bool.or_false]
  have u:fB.length<=(P++[(row h k aj,n)]).length:=by rw[uZ];have:=L.bl;lia
  let V:=E so st fB (sI n) (sT (.str k::aj));have n1:∀so st fB,decide (k = "named")=false->bJ (aY (f2 dL (bF 8 0) (fS "named"))) (aY (f2 UH (bF 8 2) (ak 3))) (E so st fB (sI n) (sT (.str k::aj)))=some false:=λso st fB hk=>aD (p:=false) (q:=false) (aW (c9 rr 0 rr) hk) λh=>by cases h
  have n2:∀so st fB,decide (k∈UL)=false->bJ (aY (f2 Bz (bF 8 0) (fA cS (ao (fS "chosen") (ao (fS "heir") aw))))) (aY (fA fw (fV 0 (fV 1 (fV 2 (fV 7 aw)))))) (E so st fB (sI n) (sT (.str k::aj)))=some false:=λso st fB hk=>aD (p:=false) (q:=false) (bC (aL (.str k) (.tup (UL.map .str)) (c9 rr 0 rr) (a5 _ rr (bc _ H9)) ((eK k UL).trans (by rw[hk])))) λh=>by cases h
  have n3:∀so st fB,decide (k = "death")=false->bJ (aY (f2 dL (bF 8 0) (fS "death"))) (aY (f2 fY (bF 8 2) (ak 6))) (E so st fB (sI n) (sT (.str k::aj)))=some false:=λso st fB hk=>aD (p:=false) (q:=false) (aW (c9 rr 0 rr) hk) λh=>by cases h
  have go:∀ {T:FS}{res:Option Res},T V=res->ce (dq 8 (f2 cI (f2 cI (ak 0) (ak 7)) (fI 1))) T (E so st fB (sI n) w)=res:=λhT=>dz (.tup (.str k::aj)) (fM rr rr I) dk.flat hT;have same:bL K st (row h k aj,n)=st->decide (k = "death")=false->fy (E so st fB (sI n) w)=some (.nx V)->∃M ρ',eA 7 (.int (n:Int)) (E so st fB v w)=some M/\(fy M=some (.nx ρ')\/fy M=some (.ct ρ'))/\∃so fB v w,ρ'=E so (bL K st (row h k aj,n)) fB v w/\Rl R (P++[(row h k aj,n)]) so fB (bL K st (row h k aj,n)):=λe hd hb=>⟨_,V,rr,.inl hb,so,fB,_,_,by rw[e],by rw[e];exact⟨L.pm,L.wl,L.of,O hd,u⟩⟩;have U:decide (k = "death")=false->k∉qS->∃M ρ',eA 7 (.int (n:Int)) (E so st fB v w)=some M/\(fy M=some (.nx ρ')\/fy M=some (.ct ρ'))/\∃so fB v w,ρ'=E so (bL K st (row h k aj,n)) fB v w/\Rl R (P++[(row h k aj,n)]) so fB (bL K st (row h k aj,n)):=λhd hc=>same (Xf K st (of_decide_eq_false hd) hc) hd (go (aJ (bP (n1 _ _ _ (yK λz=>hc (z ▸ by decide +kernel))) rr) (aJ (bP (n2 _ _ _ (yK λz=>hc (List.mem_of_mem_tail (l:=qS) z))) rr) (bP (n3 _ _ _ hd) rr))));have B:∀ {so:List Cl}{st:ME}{fB:LS}{c:Cl}{f:FE},so.length<=60->f (E so st fB (sI n) (sT (.str k::aj)))=sF (aK c)->rX 4 f (E so st fB (sI n) (sT (.str k::aj)))=some (.nx (E (so++[c]) st fB (sI n) (sT (.str k::aj)))):=λ{so st fB c f} hl hf=>by
   rw[dU (ds:=so.map aK) rr hf (jy c) (be (by rw[vI];lia))];simp[E]
  have Z5:∀ {so:List Cl}{o p:Str}{s:Int},Py so->(∀c∈so,c.o∈R.map (ai 0))->o∈R.map (ai 0)->Py (so++[⟨o,p,s,none,n⟩])/\∀c∈so++[⟨o,p,s,none,n⟩],c.o∈R.map (ai 0):=λh1 h2 h3=>⟨λc hc=>(mem_append.mp hc).elim (h1 c) λhc=>(by rw[uT hc];intro x hx;cases hx),λc hc=>(mem_append.mp hc).elim (h2 c) λhc=>by rw[uT hc];exact h3⟩;have ws:∀ {d:Int}{b:Str}{q:LD},aj=.int d::.str b::q->fw [.lst ae,.int aa,.lst (qU (bp K)),.int n]=sO (dX K b d && m9 K b d):=λe=>by
   subst e;rw[<-j,<-y4,<-T8];exact qg g aa I
  have tS:∀ {d:Int}{b o:Str}{q:LD}(A:FS),k∈UL->aj=.int d::.str b::.str o::q->yN (bJ (aY (f2 Bz (bF 8 0) (fA cS (ao (fS "chosen") (ao (fS "heir") aw))))) (aY (fA fw (fV 0 (fV 1 (fV 2 (fV 7 aw))))))) (yN (aY (f2 dL (fA fL (fV 4 (fV 3 (ao (bF 8 3) (ao (bF 8 1) aw))))) (bF 8 2))) A mv) mv V=if((dX K b d && m9 K b d) && Ia K st.1 o b d)=true then A V else some (.nx V):=λ{d b o q} A hk G=>by
   obtain⟨t,Q,e2⟩:=N (o:=o) (b:=b) (d:=d);have ti:aY (f2 dL (fA fL (fV 4 (fV 3 (ao (bF 8 3) (ao (bF 8 1) aw))))) (bF 8 2)) V=some (Ia K st.1 o b d):=by subst G;exact bC (aL t (.str b) (a5 [.lst (so.map aK),rH R,.str o,.int d] (aP rr (aP rr (aP (c9 rr 3 rr) (aP (c9 rr 1 rr) rr)))) Q) (c9 rr 2 rr) e2)
   refine KO (aD (p:=true) (q:=dX K b d && m9 K b d) (bC (aL (.str k) (.tup (UL.map .str)) (c9 rr 0 rr) (a5 _ rr (bc _ H9)) ((eK _ UL).trans (by rw[qV hk])))) λ_=>bC (a5 _ rr (ws G))) (λh=>?_) λh=>?_
   .rw[Bool.true_and]at h;rw[h,Bool.true_and];exact KO ti (λh=>by rw[if_pos h]) λh=>by rw[h];rfl
   .rw[Bool.true_and]at h;rw[h];rfl
  cases dk with
  |root o r m hm f=>cases hx.2
  |leave d b p m hm y f=>exact U s9 s9
  |paper k hk d b m hm y r hf hp=>exact U (by rcases hk with rfl|rfl<;>decide +kernel) (by rcases hk with rfl|rfl<;>decide +kernel)
  |copy k hk d b m=>exact U (by rcases hk with rfl|rfl<;>decide +kernel) (by rcases hk with rfl|rfl<;>decide +kernel)
  |named d o p=>
   have es:bL K st (row h "named" [.int d,.str o,.str p],n)=if(dR K o).isSome=true then (st.1++[⟨o,p,d,none,n⟩],st.2)else st:=LH K st rr;have t1:bJ (aY (f2 dL (bF 8 0) (fS "named"))) (aY (f2 UH (bF 8 2) (ak 3))) V=some (dR K o).isSome:=aD (p:=true) (q:=(dR K o).isSome) (aW (c9 rr 0 rr) (qV rr)) λ_=>bC (aL (.str o) (rH R) (c9 rr 2 rr) rr (by
    show some (D.bl (bj (rG R) (R.map xn) (.inr o)).isSome,false)=_;rw[l8,Option.isSome_map,<-F]))
   cases hq:(dR K o).isSome with
   |false=>exact same (es.trans (by rw[hq];rfl)) s9 (go (aJ (bP (t1.trans (congrArg some hq)) rr) (aJ (bP (n2 _ _ _ s9) rr) (bP (n3 _ _ _ s9) rr))))
   |true=>
    obtain⟨W,X⟩:=Z5 (p:=p) (s:=d) L.wl L.of (rs o hq);rw[es,hq,if_pos rr];exact⟨_,E (so++[⟨o,p,d,none,n⟩]) st fB (sI n) (sT [.str "named",.int d,.str o,.str p]),rr,.inl (go (aJ (cV (t1.trans (congrArg some hq)) (B N9 (a5 [.str o,.str p,.int d,.non,.int n] (aP (c9 rr 2 rr) (aP (c9 rr 3 rr) (aP (c9 rr 1 rr) rr))) (bc _ H9)))) (aJ (bP (n2 _ _ _ s9) rr) (bP (n3 _ _ _ s9) rr)))),_,fB,_,_,rr,L.pm.append_right _,W,X,O s9,u⟩
  |chosen d b o p s=>
   have es:bL K st (row h "chosen" [.int d,.str b,.str o,.str p,.int s],n)=if((dX K b d && m9 K b d) && Ia K st.1 o b d)=true then (a9 st.1 [o] b s++[⟨o,p,s,none,n⟩],st.2)else st:=HF K st rr rr λv h=>ro h;have i1:=n1 so st fB s9;have C:=λso=>n3 so st fB s9;have i2:=λA=>tS (d:=d) (b:=b) (o:=o) A s9 rr;cases hq:(dX K b d && m9 K b d) && Ia K st.1 o b d with
   |false=>exact same (es.trans (by rw[hq];rfl)) s9 (go (aJ (bP i1 rr) (aJ ((i2 _).trans (by rw[hq];rfl)) (bP (C _) rr))))
   |true=>
    obtain⟨W,X⟩:=Z5 (p:=p) (s:=s) (FH L.wl [o] b s) (λc hc=>by obtain⟨Y,h0,h1⟩:=mem_flatMap.mp hc;rw[rJ h1];exact L.of Y h0) (Z4 hq);rw[es,hq,if_pos rr];exact⟨_,E (a9 so [o] b s++[⟨o,p,s,none,n⟩]) st fB (sI n) (sT [.str "chosen",.int d,.str b,.str o,.str p,.int s]),rr,.inl (go (aJ (bP i1 rr) (aJ ((i2 _).trans ((if_pos hq).trans (bP (aW (c9 rr 0 rr) s9) (bo (ds:=(a9 so [o] b s).map aK) (a5 [.lst (so.map aK),.str o,.str b,.int s] (aP rr (aP (c9 rr 3 rr) (aP (c9 rr 2 rr) (aP (c9 rr 5 rr) rr)))) (xo N9 L.wl o b s)) (dB _) (B (so:=a9 so [o] b s) (vR (dh ..) N9) (a5 [.str o,.str p,.int s,.non,.int n] (aP (c9 rr 3 rr) (aP (c9 rr 4 rr) (aP (c9 rr 5 rr) rr))) (bc _ H9))))))) (bP (C _) rr)))),_,fB,_,_,rr,(L.pm.flatMap_right _).append_right _,W,X,O s9,u⟩
  |heir d b o p=>
   have es:bL K st (row h "heir" [.int d,.str b,.str o,.str p],n)=if((dX K b d && m9 K b d) && Ia K st.1 o b d)=true then (st.1,cK st.2.1 [.inr o,.inr b],cA st.2.1 st.2.2 [.inr o,.inr b] (.str p))else st:=P5 K st rr rr λv h=>ro h;have i1:=n1 so st fB s9;have C:=λst=>n3 so st fB s9;have i2:=λA=>tS (d:=d) (b:=b) (o:=o) A s9 rr;cases hq:(dX K b d && m9 K b d) && Ia K st.1 o b d with
   |false=>exact same (es.trans (by rw[hq];rfl)) s9 (go (aJ (bP i1 rr) (aJ ((i2 _).trans (by rw[hq];rfl)) (bP (C st) rr))))
   |true=>
    rw[es,hq,if_pos rr];exact⟨_,E so (st.1,cK st.2.1 [.inr o,.inr b],cA st.2.1 st.2.2 [.inr o,.inr b] (.str p)) fB (sI n) (sT [.str "heir",.int d,.str b,.str o,.str p]),rr,.inl (go (aJ (bP i1 rr) (aJ ((i2 _).trans ((if_pos hq).trans (cV (aW (c9 rr 0 rr) s9) (Fo (kd:=[.str o,.str b]) (b:=false) rr (c9 rr 4 rr) (aP (c9 rr 3 rr) (aP (c9 rr 2 rr) rr)) rr rr (by have:=S.hk;lia) H9)))) (bP (C (st.1,cK st.2.1 [.inr o,.inr b],cA st.2.1 st.2.2 [.inr o,.inr b] (.str p))) rr)))),_,fB,_,_,rr,L.pm,L.wl,L.of,O s9,u⟩
  |three k hk d p=>
   by_cases hd:k = "death"
   .subst hd;have es:bL K st (row h "death" [.int d,.str p],n)=if dW K p d n=true then (a9 st.1 (st.1.map Cl.o) p d++qT K st.1 st.2.1 st.2.2 p d n,st.2)else st:=LJ K st rr;have hf:dW K p d n = !P.any (fP p):=by
     have:=LG g aa (l:=P) (r:=r') (x:=(row h "death" [.int d,.str p],n)) (by rw[j];exact H) rr;rw[j]at this;exact this
    have Z:decide (p∈fB)=P.any (fP p):=by rw[Bool.eq_iff_iff,decide_eq_true_eq];exact L.bu p
    have ax:∀i,(P++[(row h "death" [.int d,.str p],n)]).any (fP i)=true↔i∈fB\/p=i:=λi=>by
     rw[any_append,or_eq_true,<-L.bu,any_cons,List.any_nil,Bool.or_false];unfold fP;rw[dC,qV rr,Bool.true_and,decide_eq_true_eq];rfl
    have t3:bJ (aY (f2 dL (bF 8 0) (fS "death"))) (aY (f2 fY (bF 8 2) (ak 6))) V=some (!decide (p∈fB)):=aD (p:=true) (aW (c9 rr 0 rr) (qV rr)) λ_=>bC (aL (.str p) (.lst (fB.map .str)) (c9 rr 2 rr) rr (tZ p fB));have i1:=n1 so st fB s9;have i2:=n2 so st fB s9;rw[es,hf,<-Z];cases hb:decide (p∈fB) with
    |true=>
     have ZV:=HN hb;exact⟨_,V,rr,.inl (go (aJ (bP i1 rr) (aJ (bP i2 rr) (bP (t3.trans (by rw[hb];rfl)) rr)))),so,fB,_,_,rr,L.pm,L.wl,L.of,λi=>⟨λz=>(ax i).mpr (.inl z),λz=>((ax i).mp z).elim id λz=>z ▸ ZV⟩,u⟩
    |false=>
     have ed:=LF (n:=n) (hk:=st.2.1) g aa L.wl hn N9 h0 S.hs I;rw[j]at ed;refine⟨_,E (vi K so st.2.1 st.2.2 p d n R) st (fB++[p]) (sI n) (sT [.str "death",.int d,.str p]),rr,.inl (go (aJ (bP i1 rr) (aJ (bP i2 rr) (cV (t3.trans (by rw[hb];rfl)) (aJ (dU (ds:=fB.map .str) (d:=.str p) (b:=false) rr (c9 rr 2 rr) rr (be (by rw[vI];have:=L.bl;lia))) ((rf (a5 [.lst ae,.int aa,.lst (so.map aK),.dt st.2.1 st.2.2,rH R,.int n] rr ed) (dB _)).trans (by simp[E,V]))))))),_,fB++[p],_,_,rr,by
      refine List.Perm.append ?_ ?_
      .have e:a9 so (R.map (ai 0)) p d=a9 so (st.fst.map Cl.o) p d:=by
        unfold a9;rw[List.flatMap_def,List.flatMap_def,List.map_congr_left λc w=>?_];unfold bT;rw[qV (L.of c w),qV (uS ⟨c,L.pm.mem_iff.mp w,rr⟩)]
       rw[e];exact L.pm.flatMap_right _
      .have e:R.flatMap (uC K so st.snd.fst st.snd.snd p d n)=((R.map (ai 0)).filter λo=>so.any (kg o p d)).flatMap (cC K st.snd.fst st.snd.snd p d n):=by
        rw[<-qL,List.flatMap_map];rfl
       rw[e];refine List.Perm.flatMap_right _ ((List.perm_ext_iff_of_nodup (hn.filter _) (nj st.fst p d)).mpr λo=>?_);rw[LL,mem_filter,L.pm.any_eq];refine⟨λh=>h.2,λh=>⟨?_,h⟩⟩;obtain⟨c,D,r⟩:=any_eq_true.mp h;unfold kg at r;rw[vC,decide_eq_true_eq]at r;exact r.1 ▸ L.of c (L.pm.mem_iff.mpr D),Bl _ _ _ _ _ _ _ L.wl _,λc hc=>?_,λi=>(show i∈fB++[p]↔i∈fB\/p=i by simp[eq_comm]).trans (ax i).symm,by simp only[uZ,length_singleton];have:=L.bl;lia⟩;rcases mem_append.mp hc with hc|hc
     .obtain⟨Y,h0,h1⟩:=mem_flatMap.mp hc;rw[rJ h1];exact L.of Y h0
     .obtain⟨v,hv,hc⟩:=mem_flatMap.mp hc;rw[(rK _ _ _ _ _ _ _ hc).1];exact uS ⟨v,hv,rr⟩
   .exact U (yK hd) (by rcases hk with rfl|rfl|rfl<;>first|exact absurd rr hd|decide +kernel))
 apply g';exact⟨so,ah rr (bo (a5 [] rr (bR _ H9)) rr (aJ (show DM 5 _=_ from rr) (bo (a5 [] rr (bR _ H9)) rr (aJ (di rr e) (gy rr))))),L.pm⟩
end
structure Br (ds:List D)(r:D):Prop where
 k0:ds[0]? = some (.str (kindOf r))
 d1:ds[1]? = some (.int (a6 r))
 b2:ds[2]? = some (.str (cm r))
 mt:d9 [.tup ds]=sI (fT r)
 ms:fT r∈MS
 st:ds[4+if kindOf r = "leave" then 1 else 0]? = some (dY (cN r))
 fu:kindOf r = "leave"->ds[6]? = some (.int (eN r))/\ds[3]? = some (.str (ai 2 r))
def Xg{aj:LD}(h:(D.str k::aj)[3+if k = "leave" then 1 else 0]? = some d):d9 [.tup (.str k::aj)]=some (d,false):=by
 cases a:decide (k = "leave") with
 |true=>
  rw[if_pos (HN a)]at h;exact ah rr (aR ((aW (c9 rr 0 rr) rr).trans (congrArg _ a)) (am (c9 rr 4 h)))
 |false=>
  rw[if_neg (of_decide_eq_false a)]at h;exact ah rr (aq ((aW (c9 rr 0 rr) rr).trans (congrArg _ a)) (am (c9 rr 3 h)))
def LP(g:b8 r)(h:kindOf r∈cM):∃o,xn r=.tup o/\Br o r:=by
 obtain⟨a,k,aj,rfl,d⟩:=g;obtain⟨w,y,z,M⟩:=Li  d h;obtain⟨y,F,O⟩:=Fv  d h;obtain⟨P,b,q,rfl⟩:=d.cd.deed.slg (dD (.inl (np h)));refine⟨_,rr,rr,rr,rr,Xg ?_,w,?_,λK=>?_⟩
 .rw[<-z,vF,vU M];rfl
 .rw[<-F,vF];show(D.str k::_)[4+if k = "leave" then 1 else 0]? = _;rw[vU O];rfl
 .obtain⟨c,R,S,p,m,x,f,e,_,_,_,U⟩:=iX ⟨a,k,_,rr,d⟩ K;cases e
  exact⟨by rfl,rr⟩
def cov:∀a∈MR++MS,∀b∈MS,decide (Builtin.bitOr ((a:Nat):Int) ((b:Nat):Int)=a)=decide (a &&& b=b):=s9
def CM{k:DL.Env}{a b:Nat}(O:c k=sI a)(U:M k=sI b)(o:a∈MR++MS)(q:b∈MS):f2 dL (f2 Tt c M) c k=sO (decide (a &&& b=b))/\aY (f2 lD (f2 Tt c M) c) k=some (!decide (a &&& b=b)):=by
 have e:f2 Tt c M k=sI _:=aL _ _ O U rr;rw[<-cov a o b q];exact⟨aL _ _ e O q9,bC (aL _ _ e O q9)⟩
def CN (a b:Int×OI):ji [dY a,dY b]=sO (vg a b):=by
 obtain⟨s,u⟩:=a;obtain⟨c,k⟩:=b;have t:aY (f2 Jg (bF 0 0) (bF 1 0)) [sF (dY (s,u)),sF (dY (c,k))]=some (decide (s<c)):=bC (aL (.int s) (.int c) (c9 rr 0 rr) (c9 rr 0 rr) rr);unfold vg;by_cases h:s<c
 .rw[qV h]at t;rw[yK (show ¬c<=s by lia)];exact ah rr (aR t (am rr))
 .rw[yK h]at t;rw[qV (show c<=s by lia)];refine ah rr (aq t (am ?_));cases k with
  |none=>exact kW (p:=true) (q:=true) (b1:=false) (aL .non .non (c9 rr 1 rr) rr H9) λh=>by cases h
  |some y=>
   refine kW (p:=false) (b1:=false) (aL (.int y) .non (c9 rr 1 rr) rr H9) λz=>?_;cases u with
   |none=>exact bQ (p:=false) (q:=false) (b1:=false) (aL .non .non (c9 rr 1 rr) rr q9) λh=>by cases h
   |some x=>exact bQ (p:=true) (b1:=false) (aL (.int x) .non (c9 rr 1 rr) rr q9) λz=>aL (.int x) (.int y) (c9 rr 1 rr) (c9 rr 1 rr) rr
def LQ {M:FE}{a:DL.Env}{c:LD}{r v:D}{i:Nat}(B:Br c r)(k:a[i]? = some (sT c))(o:M a=sI (eN v)):Qx (f2 lD (bF i 0) (fS "leave")) (f2 Jg (bF i 6) M) a=sO (!(jY r && decide (eN v<=eN r))):=by
 unfold jY;have e:f2 lD (bF i 0) (fS "leave") a=sO _:=aL _ _ (c9 k 0 B.k0) rr (by unfold lD;rw[if_pos ⟨rr,rr⟩,cu]);cases b:decide (kindOf r = "leave") with
 |false=>rw[b]at e;exact kW  (q:=true) e λh=>by cases h
 |true=>
  rw[b]at e;refine(kW   e λz=>aL _ _ (c9 k 6 (B.fu (HN b)).1) o rr).trans ?_;rw[Bool.true_and,<-decide_not,decide_eq_decide.mpr (Int.not_le).symm];rfl
def HG {l r:D}(c:b8 l)(j:b8 r)(w:kindOf l∈bg)(n:kindOf r∈cM):eW [xn l,xn r]=sO (jY l && (decide (ai 2 l=cm r) && ((j0 (a6 r) (cN l) && vg (cN r) (cN l)) && iC r l))):=by
 obtain⟨M,R,B⟩:=LP j n;rw[R];unfold jY;by_cases z:kindOf l = "leave"
 .obtain⟨a,d,b,p,m,x,f,rfl,S,o,W,t⟩:=iX c z;rw[show ai 2 (row a "leave" [.int d,.str b,.str p,.int m,dY x,.int f])=p from rr,W,qV z,Bool.true_and];let L:D:=.tup [.str "leave",.int d,.str b,.str p,.int m,dY x,.int f];have O:gK (aY (f2 lD (bF 0 0) (fS "leave"))) (gK (aY (f2 lD (bF 0 3) (bF 1 2))) (aY (f2 lD (f2 Tt (bF 0 4) (fA d9 (fV 1 aw))) (bF 0 4)))) [sF L,sT M,none]=some (!decide (p=cm r) || !decide (m &&& fT r=fT r)):=b7 (p:=false) (bC (aL (.str "leave") (.str "leave") (c9 rr 0 rr) rr (by unfold lD;rw[if_pos ⟨rr,rr⟩,cu,qV rr];rfl))) λZ=>b7 (bC (aL (.str p) (.str (cm r)) (c9 rr 3 rr) (c9 rr 2 B.b2) (by unfold lD;rw[if_pos ⟨rr,rr⟩,cu]))) λZ=>(CM (c9 rr 4 rr) (a5 _ rr B.mt) (mY _ S) B.ms).2;let V:DL.Env:=[sF L,sT M,sF (dY (cN r))];have K:f2 cI (ak 1) (f2 jD (fI 4) (fA W4 (ao (f2 dL (bF 1 0) (fS "leave")) aw))) [sF L,sT M,none]=sF (dY (cN r)):=by
   refine aL (.tup M) (.int ((4+if kindOf r = "leave" then 1 else 0:Nat):Int)) rr (aL (.int 4) (.int (if kindOf r = "leave" then 1 else 0)) rr (a5 [.bl (decide (kindOf r = "leave"))] (aP (aL (.str (kindOf r)) (.str "leave") (c9 rr 0 B.k0) rr (yB _ _)) rr) ?_) ?_) (by show(mr M _).map _=_;rw[bv B.st];rfl)
   .by_cases z:kindOf r = "leave"<;>simp[z]
   .by_cases z:kindOf r = "leave"<;>simp[z]
  have e:gK (aY (f2 Jg (bF 1 1) (f2 cI (bF 0 5) (fI 0)))) (bJ (aY (f2 mF (f2 cI (bF 0 5) (fI 1)) (fC .non))) (aY (f2 iGe (bF 1 1) (f2 cI (bF 0 5) (fI 1))))) V=some (!j0 (a6 r) x):=by
   have U:bF 0 5 V=sF (dY x):=c9 rr 5 rr;have g:bF 1 1 V=sI (a6 r):=c9 rr 1 B.d1;obtain⟨s,u⟩:=x;refine(b7 (p:=decide (a6 r<s)) (q:=match u with|none=>false|some y=>decide (y<=a6 r)) (bC (aL (.int (a6 r)) (.int s) g (aL (dY (s,u)) (.int 0) U rr rr) rr)) λZ=>?_).trans ?_
   .cases u with
    |none=>exact aD (p:=false) (q:=false) (bC (aL .non .non (aL (dY (s,none)) (.int 1) U rr rr) rr q9)) λh=>by cases h
    |some y=>exact aD (p:=true) (bC (aL (.int y) .non (aL (dY (s,some y)) (.int 1) U rr rr) rr q9)) λZ=>bC (aL (.int (a6 r)) (.int y) g (aL (dY (s,some y)) (.int 1) U rr rr) rr)
   .unfold j0;rw[Bool.not_and,<-decide_not,decide_eq_decide.mpr (Int.not_le (a:=s) (b:=a6 r))];cases u with
    |none=>rfl
    |some y=>dsimp only;rw[<-decide_not,decide_eq_decide.mpr (Int.not_lt (a:=a6 r) (b:=y))]
  have v:iC r (row a "leave" [.int d,.str b,.str p,.int m,dY x,.int f])=(decide (m &&& fT r=fT r) && !(jY r && decide (eN (row a "leave" [.int d,.str b,.str p,.int m,dY x,.int f])<=eN r))):=by unfold iC;rw[o]
  rw[v];cases F : !decide (p=cm r) || !decide (m &&& fT r=fT r) with
  |true=>
   refine(ah rr (aR (O.trans (congrArg some F)) (am rr))).trans (congrArg (λb=>sO b) ?_);revert F;cases decide (p=cm r)<;>cases decide (m &&& fT r=fT r)<;>simp
  |false=>
   rw[Bool.or_eq_false_iff,not_eq_false',not_eq_false']at F;rw[F.1,F.2]at O |-;cases P:j0 (a6 r) x with
   |false=>exact ah rr (aq O (dz (dY (cN r)) K (iB _) (aR (e.trans (by rw[P];rfl)) (am rr))))
   |true=>exact ah rr (aq O (dz (dY (cN r)) K (iB _) (aq (e.trans (by rw[P];rfl)) (am (bQ (p:=vg (cN r) x) (b1:=false) (a5 [dY (cN r),dY x] (aP rr (aP (c9 rr 5 rr) rr)) (CN _ _)) λZ=>LQ (i:=1) B rr (show bF 0 6 V=sI (eN (row a "leave" [.int d,.str b,.str p,.int m,dY x,.int f])) by rw[t];exact c9 rr 6 rr))))))
 .obtain⟨a,k,aj,rfl,d⟩:=c;rw[yK z];exact ah rr (aR (b7 (p:=true) (q:=true) (bC (aL (.str k) (.str "leave") (c9 rr 0 rr) rr (by unfold lD;rw[if_pos ⟨rr,rr⟩,cu,yK (show ¬k = "leave" from z)];rfl))) λh=>by cases h) (am rr))
section
variable {ae:LD}(g:∀r∈ae,b8 r) (aa:Int) (hn:((aE (af ae aa)).map (ai 0)).Nodup) {so:List Cl}(uB:so.length<=60) (hp:so.Perm (aN (af ae aa))) (nd:(so.map λc=>(c.o,c.n)).Nodup)
include g
theorem LR:∀v∈aE (af ae aa),TU v:=λv b=>by
 obtain⟨x,hx,rfl⟩:=vO b;obtain⟨k,q⟩:=vN hx;obtain⟨a,o,w,m,f,e,z,y⟩:=ly (g _ (vL (aG k))) q;exact⟨a,o,w,m,f,e,z⟩
include hn uB hp nd
theorem LW(k:v∈aE (af ae aa))(b)d:∃a,fL [.lst (so.map aK),rH (aE (af ae aa)),.str (ai 0 v),.int d]=some (a,false)/\dL a (.str b)=sO (cL (aN (af ae aa)) (ai 0 v) (ai 3 v) b d):=by
 obtain⟨a,M,q⟩:=Bj uB nd (LR g aa) _ d;refine⟨a,M,(q b).trans ?_⟩;rw[rC hn k,<-xp hp ((hp.map _).nodup_iff.mp nd)];rfl
abbrev xq (so:List Cl)(R:LD):D:=.tup [.lst (so.map aK),rH R]
theorem CO {r:D}(l:b8 r)(p:kindOf r∈cM):dO [xq so (aE (af ae aa)),xn r]=sO ((aE (af ae aa)).any (oR (aN (af ae aa)) r)):=by
 obtain⟨h,X,B⟩:=LP l p;rw[X];have O:=LR g aa;have U:=λ{v} w=>LW g aa hn uB hp nd (v:=v) w (cm r) (a6 r);have q:=λ{v} w=>rC hn (v:=v) w;generalize aE (af ae aa)=R at *;let E:OB->OB->OB->DL.Env:=λa b c=>[sF (xq so R),sT h,sL (so.map aK),sF (rH R),a,b,c];have L:=l7 (tg:=eA 4) (g:=oB) (λv=>.str (ai 0 v)) (oR (aN (af ae aa)) r) (λF=>∃a b c,F=E a b c) (d:=.bl true) (b:=false) R (E none none none) ⟨_,_,_,rr⟩ (by
  rintro v w F ⟨a,b,c,rfl⟩;refine cX λn g'=>?_;obtain⟨Z,s,u⟩:=U w;obtain⟨M,o,z,m,f,rfl,x⟩:=O v w;apply g';have j:f2 Ou (ak 3) (ak 4) (E (sS o) b c)=sT [.str "root",.str o,.int m,.int f,.str z]:=by
   show(bj (rG R) (R.map xn) (.inr o)).map _=_;rw[l8,show bj (rG R) R (.inr o)=_ from q w];rfl
  let V:=E (sS o) (sT [.str "root",.str o,.int m,.int f,.str z]) (sO (iC r (row M "root" [.str o,.int m,.int f,.str z])));have t:bJ (aY (ak 6)) (aY (f2 dL (fA fL (fV 2 (fV 3 (fV 4 (ao (bF 1 1) aw))))) (bF 1 2))) V=some (oR (aN (af ae aa)) r (row M "root" [.str o,.int m,.int f,.str z])):=(aD (bC rr) λn=>bC (aL Z (.str (cm r)) (a5 _ (aP rr (aP rr (aP rr (aP (c9 rr 1 B.d1) rr)))) s) (c9 rr 2 B.b2) u)).trans (by unfold oR;rw[Bool.and_comm]);cases K:oR (aN (af ae aa)) r (row M "root" [.str o,.int m,.int f,.str z]) with
  |true=>exact⟨_,rr,.inl ⟨rr,dz _ j rr (dz _ (bQ (b1:=false) (CM (c9 rr 2 rr) (a5 _ rr B.mt) (mem_append_left _ x) B.ms).1 λn=>LQ (i:=1) B rr (c9 rr 3 rr)) rr (cV (t.trans (congrArg some K)) (am rr)))⟩⟩
  |false=>exact⟨_,rr,.inr ⟨rr,V,⟨_,_,_,rr⟩,.inl (dz _ j rr (dz _ (bQ (b1:=false) (CM (c9 rr 2 rr) (a5 _ rr B.mt) (mem_append_left _ x) B.ms).1 λn=>LQ (i:=1) B rr (c9 rr 3 rr)) rr (bP (t.trans (congrArg some K)) rr)))⟩⟩)
 have S:yk (ak 3) (iI (E none none none))=some (R.map λv=>.str (ai 0 v)):=by show some _=_;rw[uP];rfl
 rcases L with⟨W,e⟩|⟨W,y,⟨a,b,c,rfl⟩,e⟩<;>rw[W]
 .exact ah rr (aJ rr (He (show Q2 [3] _ _=_ from di S e)))
 .exact ah rr (aJ rr (aJ (show Q2 [3] _ _=_ from di S e) (am rr)))
theorem CP {n:Nat}{r:D}(N:ae[n]? = some r)(F:kindOf r∈bg)(hk:aO r<=aa)(day:Int):jT [.lst ae,.int aa,.lst (qU (bp (af ae aa))),xq so (aE (af ae aa)),.int n,.int day]=sO (!(jZ ae aa n r day).isEmpty):=by
 have T:(!(jZ ae aa n r day).isEmpty)=(bp (af ae aa)).any λx=>vh ae aa n r day x.1:=by
  unfold jZ;rw[if_pos ⟨hk,F⟩,Bool.eq_iff_iff,not_eq_true',List.isEmpty_eq_false_iff_exists_mem,any_eq_true];refine⟨λ⟨m,h⟩=>?_,λ⟨x,h1,h2⟩=>⟨x.2,uS ⟨x,mem_filter.mpr ⟨(fO.mp h1).1,h2⟩,rr⟩⟩⟩;obtain⟨x,hx,_⟩:=vO h;obtain⟨h1,h2⟩:=vN hx;refine⟨x,fO.mpr ⟨h1,?_⟩,h2⟩;unfold vh at h2;rw[vC,decide_eq_true_eq]at h2;unfold aH;rw[h2.1];decide +kernel
 rw[T];have W:=g r (vL N);have G:=LR g aa;have X:=λ{v} hv=>LW g aa hn uB hp nd (v:=v) hv;have Y:=λ{v} hv=>rC hn (v:=v) hv;have ws:=λ{n a day k p q}=>qg (n:=n) (a:=a) (day:=day) (k:=k) (p:=p) (q:=q) g aa;have Z:=λ{x}=>fO (x:=x) (ae:=ae) (aa:=aa);refine cX λ_ g'=>?_;obtain⟨a,k,aj,er,dk⟩:=W;obtain⟨dd,b,q,rfl⟩:=dk.cd.deed.slg (dD (.inl (by rw[er]at F;exact F)));apply g';have eb:cm r=b:=by rw[er];rfl
 have ek:kindOf r=k:=by rw[er];rfl
 have H:∀c,Ls (af ae aa) c r=(decide (cm c=b) || (aE (af ae aa)).any λv=>!decide (k = "copy") && (decide (fT v &&& fT r=fT r) && cL (aN (af ae aa)) (ai 0 v) (ai 3 v) (cm c) (a6 c))):=λc=>by
  unfold Ls;rw[eb,ek];cases decide (k = "copy")<;>simp
 generalize aE (af ae aa)=R at *;let O:=xq so R;let E:OB->OB->OB->OB->DL.Env:=λa c e f=>[sL ae,sI aa,sL (qU (bp (af ae aa))),sF O,sI n,sI day,sT (.str k::.int dd::.str b::q),sL (so.map aK),sF (rH R),a,c,e,f];have Z6:∀(m:Nat)(d':Int)(b':Str)(s U M:OB),_:=λm d' b' s U M=>l7 (tg:=eA 11) (g:=A4) (λv=>.str (ai 0 v)) (λv=>!decide (k = "copy") && (decide (fT v &&& fT r=fT r) && cL (aN (af ae aa)) (ai 0 v) (ai 3 v) b' d')) (λρ=>∃e f,ρ=E s (sT [.str "call",.int d',.str b',.int m]) e f) (d:=.bl true) (b:=false) R (E s (sT [.str "call",.int d',.str b',.int m]) U M) ⟨_,_,rr⟩ (by
  rintro v hv ρ ⟨U,M,rfl⟩;refine cX λ_ g'=>?_;obtain⟨MJ,e1,e2⟩:=X hv b' d';obtain⟨j,o,rl,u,f,rfl,hm⟩:=G v hv;apply g';let z:=!decide (k = "copy") && decide (u &&& fT r=fT r);have I:∀f,f2 cI (f2 Ou (ak 8) (ak 11)) (fI 2) (E s (sT [.str "call",.int d',.str b',.int m]) (sS o) f)=sI u:=λf=>aL (.tup [.str "root",.str o,.int u,.int _,.str rl]) (.int 2) (by
   show(bj (rG R) (R.map xn) (.inr o)).map _=_;rw[l8,show bj (rG R) R (.inr o)=_ from Y hv];rfl) rr rr
  have w:zh (f2 lD (bF 6 0) (fS "copy")) (f2 dL (f2 Tt (f2 cI (f2 Ou (ak 8) (ak 11)) (fI 2)) (fA d9 (fV 6 aw))) (f2 cI (f2 Ou (ak 8) (ak 11)) (fI 2))) (E s (sT [.str "call",.int d',.str b',.int m]) (sS o) M)=sO z:=bQ (p:=!decide (k = "copy")) (b1:=false) (aL (.str k) (.str "copy") (c9 rr 0 rr) rr (by unfold lD;rw[if_pos ⟨rr,rr⟩,cu])) λhc=>by
   obtain⟨dr,A,B⟩:=LP ⟨a,k,_,er,dk⟩ ((by decide +kernel:∀k∈bg,(!decide (k = "copy"))=true->k∈cM) _ F (ek ▸ hc));rw[er]at A;cases A
   exact(CM (I M) (a5 _ rr B.mt) (mem_append_left _ hm) B.ms).1
  let V:=E s (sT [.str "call",.int d',.str b',.int m]) (sS o) (sO z);have t:bJ (aY (ak 12)) (aY (f2 dL (fA fL (fV 7 (fV 8 (fV 11 (ao (bF 10 1) aw))))) (bF 10 2))) V=some (z && cL (aN (af ae aa)) o rl b' d'):=aD (bC rr) λ_=>bC (aL MJ (.str b') (a5 _ (aP rr (aP rr (aP rr (aP (c9 rr 1 rr) rr)))) e1) (c9 rr 2 rr) e2);have ez:(!decide (k = "copy") && (decide (fT (row j "root" [.str o,.int u,.int f,.str rl]) &&& fT r=fT r) && cL (aN (af ae aa)) o rl b' d'))=(z && cL (aN (af ae aa)) o rl b' d'):=(Bool.and_assoc ..).symm;show ∃J,_/\((_=true/\_)\/(_=false/\_));rw[show(!decide (k = "copy") && (decide (fT (row j "root" [.str o,.int u,.int f,.str rl]) &&& fT r=fT r) && cL (aN (af ae aa)) (ai 0 (row j "root" [.str o,.int u,.int f,.str rl])) (ai 3 (row j "root" [.str o,.int u,.int f,.str rl])) b' d'))=_ from ez];cases hc:z && cL (aN (af ae aa)) o rl b' d' with
  |true=>exact⟨_,rr,.inl ⟨rr,dz (.bl z) w rr (cV (t.trans (congrArg some hc)) (am rr))⟩⟩
  |false=>exact⟨_,rr,.inr ⟨rr,V,⟨_,_,rr⟩,.inl (dz (.bl z) w rr (bP (t.trans (congrArg some hc)) rr))⟩⟩)
 have P:∀a c e f,yk (ak 8) (iI (E a c e f))=some (R.map λv=>.str (ai 0 v)):=λa c e f=>by show some _=_;rw[uP];rfl
 have L:=l7 (tg:=eA 9) (g:=A5) (λx:D×Nat=>.int (x.2:Int)) (λx=>vh ae aa n r day x.1) (λρ=>∃a c e f,ρ=E a c e f) (d:=.bl true) (b:=false) (bp (af ae aa)) (E none none none none) ⟨_,_,_,_,rr⟩ (by
  rintro⟨c,i⟩ hx ρ ⟨s,Z2,U,M,rfl⟩;have hx:=Z.mp hx;have K:=aG hx.1;have hh:=HN (vN hx.1).2;obtain⟨j,k',aj,rfl,d'⟩:=g _ (vL K);have y:f2 cI (f2 cI (ak 0) (ak 9)) (fI 1) (E (sI i) Z2 U M)=sT (.str k'::aj):=fM rr rr K;let V:=E (sI i) (sT (.str k'::aj)) U M;show ∃J,_/\((vh ae aa n r day (row j k' aj)=true/\_)\/(vh ae aa n r day (row j k' aj)=false/\_));unfold vh;rw[H,dC];cases Q:decide (k' = "call") with
  |false=>exact⟨_,rr,.inr ⟨rr,V,⟨_,_,_,_,rr⟩,.inl (dz _ y d'.flat (bP (aD (p:=false) (q:=false) (aW (c9 rr 0 rr) Q) λh=>by cases h) rr))⟩⟩
  |true=>
   obtain⟨a'',l,b2,m,e⟩:=ue ⟨j,k',aj,rr,d'⟩ (HN Q);cases e
   have t:bJ (aY (f2 dL (bF 10 0) (fS "call"))) (bJ (aY (f2 dL (bF 10 3) (ak 4))) (aY (f2 yO (bF 10 1) (ak 5)))) V=some (decide ((m:Int)=n) && decide (l<=day)):=aD (p:=true) (aW (c9 rr 0 rr) (qV rr)) λ_=>aD (bC (aL (.int m) (.int n) (c9 rr 3 rr) rr q9)) λ_=>bC (aL (.int l) (.int day) (c9 rr 1 rr) rr rr);have es:kj (aY (fA fw (fV 0 (fV 1 (fV 2 (fV 9 aw)))))) V=some (!gm ae aa (row j "call" [.int l,.str b2,.int m])):=(bw (bC (a5 _ rr (ws K)))).trans (by
    unfold gm;rw[qV hh,dC,show df "call" = true by decide +kernel];rfl)
   have C:aY (f2 dL (bF 10 2) (bF 6 2)) V=some (decide (b2=b)):=bC (aL (.str b2) (.str b) (c9 rr 2 rr) (c9 rr 2 rr) (yB _ _));rw[Bool.true_and,<-Bool.and_assoc,show(decide (eM 2 (row j "call" [.int l,.str b2,.int m])=(n:Int)) && decide (a6 (row j "call" [.int l,.str b2,.int m])<=day))=(decide ((m:Int)=n) && decide (l<=day))from rr,show cm (row j "call" [.int l,.str b2,.int m])=b2 from rr,show a6 (row j "call" [.int l,.str b2,.int m])=l from rr];cases h1:decide ((m:Int)=n) && decide (l<=day) with
   |false=>exact⟨_,rr,.inr ⟨rr,V,⟨_,_,_,_,rr⟩,.inl (dz _ y rr (bP (t.trans (congrArg some h1)) rr))⟩⟩
   |true=>
    have t:=t.trans (congrArg some h1);cases h2:gm ae aa (row j "call" [.int l,.str b2,.int m]) with
    |false=>exact⟨_,rr,.inr ⟨rr,V,⟨_,_,_,_,rr⟩,.inr (dz _ y rr (cV t (WV (cV (es.trans (by rw[h2];rfl)) rr))))⟩⟩
    |true=>
     have es:=es.trans (by rw[h2]);cases h3:decide (b2=b) with
     |true=>exact⟨_,rr,.inl ⟨rr,dz _ y rr (cV t (aq es (aR (C.trans (congrArg some h3)) (am rr))))⟩⟩
     |false=>
      have C:=C.trans (congrArg some h3);rcases Z6 m l b2 (sI i) U M with⟨ha,e⟩|⟨ha,ρ',⟨e11,w,rfl⟩,e⟩
      .exact⟨_,rr,.inl ⟨by rw[ha];rfl,dz _ y rr (cV t (aq es (aq C (show Q2 [8] _ _=_ from di (P ..) e))))⟩⟩
      .exact⟨_,rr,.inr ⟨by rw[ha];rfl,_,⟨_,_,_,_,rr⟩,.inl (dz _ y rr (cV t (aq es (aq C (show Q2 [8] _ _=_ from di (P ..) e)))))⟩⟩)
 have S:f2 cI (f2 cI (ak 0) (ak 4)) (fI 1) [sL ae,sI aa,sL (qU (bp (af ae aa))),sF O,sI n,sI day,none,none,none,none,none,none,none]=sT (.str k::.int dd::.str b::q):=fM rr rr (er ▸ N);have es:nR [7,8] (ak 3) [sL ae,sI aa,sL (qU (bp (af ae aa))),sF O,sI n,sI day,sT (.str k::.int dd::.str b::q),none,none,none,none,none,none]=some (.nx (E none none none none)):=rr;rcases L with⟨ha,e⟩|⟨ha,ρ',⟨a1,a2,a3,a4,rfl⟩,e⟩<;>rw[ha]
 .exact ah rr (dz _ S dk.flat (aJ es (He (di rr e))))
 .exact ah rr (dz _ S dk.flat (aJ es (aJ (di rr e) (am rr))))
end
def SP (a:LD)(b:Int)(x:D×Nat)(S:LN):Prop:=∀m∈S,∃q,a[m]? = some q/\(q,m)∈af a b/\kindOf q∈bg/\bX (q,m) x=true
def LB (r l:D):Bool:=jY l && (decide (ai 2 l=cm r) && ((j0 (a6 r) (cN l) && vg (cN r) (cN l)) && iC r l))
def pi S(m:Nat):iZ S (none,m)=decide (m∈S):=rF m S
section
variable {ae:LD}{aa:Int}{r:D}{n:Nat}{S:LN}(h:SP ae aa (r,n) S)
include h
theorem LX {m:Nat}(M:kindOf r = "copy")(O:eM 2 r=m):(eO ae aa (r,n)).any (iZ S)=(decide (m∈S) && !decide (kindOf (ae.getD m .non) = "leave")):=by
 unfold eO oW;rw[if_pos M,O,Int.toNat_natCast];by_cases a:m∈S
 .refine cX λz g'=>?_;obtain⟨q,b,c,o,w⟩:=h m a;apply g';have e:oV ae aa r n m = !decide (kindOf q = "leave"):=by
   unfold oV;rw[b];show((decide (aO q<=aa) && decide (kindOf q∈cG)) && bX (q,m) (r,n))=_;rw[qV (HN (vN c).2),w,Bool.true_and,Bool.and_true];exact(by decide +kernel:∀k∈bg,decide (k∈cG) = !decide (k = "leave")) _ o
  rw[e,qV a,vF,b];show _=(true && !decide (kindOf q = "leave"));cases decide (kindOf q = "leave") with
  |true=>rfl
  |false=>simp[pi,a]
 .rw[yK a];split<;>simp[pi,a]
theorem LY (M:kindOf r ≠ "copy"):(eO ae aa (r,n)).any (iZ S)=(S.any (λm=>LB r (ae.getD m .non)) || (aE (af ae aa)).any (oR (aN (af ae aa)) r)):=by
 unfold eO oW;rw[if_neg M];unfold Pj;rw[(aA _ _).any_eq];unfold AM;rw[any_append,Bool.or_comm];congr 1
 .rw[Bool.eq_iff_iff,any_eq_true,any_eq_true];constructor
  .rintro⟨b,a,K⟩;obtain⟨y,P,rfl⟩:=vO a;obtain⟨k,c⟩:=vN P;obtain⟨z,w⟩:=vN k;obtain⟨R,O⟩:=vN z;have o:y.2∈S:=HN (rF y.2 S ▸ K);refine⟨y.2,o,?_⟩;rw[vF,aG R];unfold Hq at c;rw[vC]at c;unfold LB;simp only[Option.getD_some,O,w,c.2,Bool.and_self]
  .rintro⟨m,o,a⟩;obtain⟨q,k,c,z,w⟩:=h m o;rw[vF,k]at a;unfold LB at a;rw[Option.getD_some,vC,vC]at a;exact⟨(none,(m:Int)),uS ⟨(q,m),mem_filter.mpr ⟨mem_filter.mpr ⟨mem_filter.mpr ⟨c,a.1⟩,a.2.1⟩,by unfold Hq;rw[w];exact a.2.2⟩,rr⟩,(rF m S).trans (qV o)⟩
 .rw[Bool.eq_iff_iff,any_eq_true,any_eq_true];exact⟨λ⟨b,a,_⟩=>by obtain⟨v,F,rfl⟩:=vO a;exact⟨v,(vN F).1,(vN F).2⟩,λ⟨v,k,c⟩=>⟨_,uS ⟨v,mem_filter.mpr ⟨k,c⟩,rr⟩,rr⟩⟩
end
def CQ a(A)r:af (A++[r]) a=af A a++(if aO r<=a then [(r,A.length)]else []):=by
 unfold af;rw[List.zipIdx_append];by_cases h:aO r<=a<;>simp[h]
def dT (x:D×Nat):D:=.tup [.int (a6 x.1),.int (x.2:Int)]
def n6 (K:KL):KL:=K.filter λx=>!aH x.1
def Bm (K)x:aE (K++[x])=aE K++if aH x.1=true then [x.1]else []:=by
 unfold aE;rw[filter_append,uW,filter_cons];split<;>rfl
def FK (K)x:n6 (K++[x])=n6 K++if aH x.1=true then []else [x]:=by
 unfold n6;rw[filter_append,filter_cons];cases aH _<;>rfl
section
variable {ae:LD}(g:∀r∈ae,b8 r) (hl:ae.length<=30) (aa:Int) (hn:((aE (af ae aa)).map (ai 0)).Nodup)
include g hl hn
theorem P7 (R:Int)(a b c d e f h:OB):∃U M O,rZ (kJ (fA nM (fV 0 aw))) (eA 5) m7 [sL ae,sI aa,sI R,lT [],some (.dk [] [],true),none,none,none,a,b,c,d,e,f,h]=some (.nx [sL ae,sI aa,sI R,lT ((n6 (af ae aa)).map dT),some (rH (aE (af ae aa)),true),U,M,O,a,b,c,d,e,f,h]):=by
 let E:KL->OB->OB->OB->DL.Env:=λK U M O=>[sL ae,sI aa,sI R,lT ((n6 K).map dT),some (rH (aE K),true),U,M,O,a,b,c,d,e,f,h];refine cX λr g'=>?_;obtain⟨J,x,U,M,O,rfl⟩:=o3 (tg:=eA 5) (g:=m7) ae.length (λi I=>∃U M O,I=E (af (ae.take i) aa) U M O) (E [] none none none) ⟨_,_,_,rr⟩ (by
  rintro i I L ⟨U,M,O,rfl⟩;have s:=vU L;refine cX λr g'=>?_;obtain⟨P,k,aj,N,G⟩:=g _ (vL s);apply g';rw[N]at s;have A:ae.take (i+1)=ae.take i++[row P k aj]:=by rw[take_add_one,s];rfl
  have t:(ae.take i).length=i:=by rw[length_take];lia
  have u:((aE (af (ae.take (i+1)) aa)).map (ai 0)).Nodup:=hn.sublist (by rw[oZ,oZ];exact((take_sublist ..).filter _).map _);have F:(n6 (af (ae.take i) aa)).length<=60:=vR (vM _ _) (vR (b9 _ _) N9);rw[A,CQ,t]at *;generalize B:af (ae.take i) aa=K at *;let V:DL.Env:=[sL ae,sI aa,sI R,lT ((n6 K).map dT),some (rH (aE K),true),sI i,sI P,sT (.str k::aj),a,b,c,d,e,f,h];have H:nR [6,7] (f2 cI (ak 0) (ak 5)) [sL ae,sI aa,sI R,lT ((n6 K).map dT),some (rH (aE K),true),sI i,M,O,a,b,c,d,e,f,h]=some (.nx V):=by
   show(f2 cI _ _ _).bind _=_;rw[aL (.lst ae) (.int i) rr rr (show cI (.lst ae) (.int i)=some (row P k aj,false) by simp[bv s])];show(gO [6,7] [.int P,.tup (.str k::aj)] (if aU [.int P,.tup (.str k::aj)]=true then _ else _)).map _=_;rw[if_pos (by simp[G.flat])];rfl
  have l:aY (f2 yO (ak 6) (ak 1)) V=some (decide (P<=aa)):=bC (aL (.int P) (.int aa) rr rr rr);have n:bJ (aY (f2 yO (ak 6) (ak 1))) (aY (f2 dL (bF 7 0) (fS "root"))) V=some (decide (P<=aa) && decide (k = "root")):=aD l λr=>aW (c9 rr 0 rr) rr;by_cases X:P<=aa
  .rw[show(if aO (row P k aj)<=aa then [(row P k aj,i)]else [])=[(row P k aj,i)]from if_pos X]at *;rw[qV X,Bool.true_and]at n;rw[qV X]at l;cases S:decide (k = "root") with
   |true=>
    obtain⟨r,o,W,m,j,C,r⟩:=ly ⟨P,k,aj,rr,G⟩ S;cases C
    have p:aH (row P "root" [.str o,.int m,.int j,.str W])=true:=S;have eR:aE (K++[(row P "root" [.str o,.int m,.int j,.str W],i)])=aE K++[row P "root" [.str o,.int m,.int j,.str W]]:=(Bm ..).trans (by rw[if_pos p]);have w:n6 (K++[(row P "root" [.str o,.int m,.int j,.str W],i)])=n6 K:=(FK ..).trans (by rw[if_pos p,uQ]);rw[eR]at u;have y:(.inr o:dH)∉rG (aE K):=λz=>by
     obtain⟨v,Q,e⟩:=vO z;rw[uW,nodup_append]at u;exact u.2.2 _ (uS ⟨v,Q,rr⟩) o mX (Sum.inr.inj e)
    refine⟨_,E (K++[(row P "root" [.str o,.int m,.int j,.str W],i)]) (sI i) (sI P) (sT [.str "root",.str o,.int m,.int j,.str W]),rr,.inl (aJ H (cV (n.trans (congrArg some S)) ?_)),_,_,_,rr⟩;have D:(rG (aE K)).length<=30:=by
     rw[vI];unfold aE;rw[vI,<-B];exact vR (vM _ _) (vR (b9 _ _) (by rw[length_take];lia))
    refine(show w4 4 (bF 7 1) (ak 7) V=some (.nx _)from if_pos (e:=none) ⟨rr,be N9⟩).trans ?_;unfold cK cA;rw[if_neg y,if_neg y];simp only[E,eR,w,rH,rG,uW];rfl
   |false=>
    have eR:aE (K++[(row P k aj,i)])=aE K:=(Bm ..).trans (by rw[if_neg (show ¬aH _=true by rw[show aH (row P k aj)=false from S];decide),uQ]);have w:n6 (K++[(row P k aj,i)])=n6 K++[(row P k aj,i)]:=(FK ..).trans (by rw[if_neg (show ¬aH _=true by rw[show aH (row P k aj)=false from S];decide)]);obtain⟨Z,q,rfl⟩:=G.cd.day (of_decide_eq_false S);refine⟨_,E (K++[(row P k (.int Z::q),i)]) (sI i) (sI P) (sT (.str k::.int Z::q)),rr,.inl (aJ H (bP (n.trans (congrArg some S)) (cV l ((dU (ds:=(n6 K).map dT) (d:=dT (row P k (.int Z::q),i)) (b:=false) rr (a5 [.int Z,.int i] (aP (c9 rr 1 rr) rr) (bc _ H9)) rr (be (by rw[vI];lia))).trans ?_)))),_,_,_,rr⟩;simp only[E,eR,w,uW];rfl
  .rw[show(if aO (row P k aj)<=aa then [(row P k aj,i)]else [])=[]from if_neg X,uQ]at *;rw[yK X]at l n;exact⟨_,V,rr,.inl (aJ H (bP n (bP l rr))),_,_,_,rr⟩)
 apply g';rw[take_length]at x;exact⟨_,_,_,kU (gX (b:=false) (a5 [.lst ae] rr jL) N9) x⟩
end
noncomputable abbrev LZ (S:LN):LD:=S.map λ(m:Nat)=>.int (m:Int)
section
variable {ae:LD}(g:∀r∈ae,b8 r) (hl:ae.length<=30) (aa:Int) (hn:((aE (af ae aa)).map (ai 0)).Nodup) (h0:aE (af ae aa)≠[]) (day:Int)
def SF (ae:LD)(aa day:Int)(P:KL):LN:=gM ((mn ae aa day P).map λx=>(x.2,eO ae aa x))
theorem Xh(M:bp (af ae aa)=P++x::r):SP ae aa x (SF ae aa day P):=λm o=>by
 rcases qd _ _ _ o with z|z
 .cases z
 .obtain⟨p,q,rfl⟩:=vO z;obtain⟨y,a,rfl⟩:=vO q;obtain⟨b,c⟩:=vN a;have a:=(fO.mp (by rw[M];exact mem_append_left _ b)).1;rw[vC]at c;refine⟨y.1,aG a,a,HN c.1,?_⟩;have O:=(pairwise_append.mp (M ▸ uu _)).2.2 y b x mX;have k:=gn (ca ae aa);rw[M,uW,nodup_append]at k;have w:=k.2.2 _ (uS ⟨y,b,rr⟩) x.2 C_;unfold bX at O |-;grind
include g hl hn h0
theorem HI:jU [.lst ae,.int aa,.int day]=lT (ja (ft ae aa day)):=by
 obtain⟨v5,v6,v7,z⟩:=P7 g hl aa hn day none none none none none none none;obtain⟨so,ec,pm⟩:=CL g hl aa hn h0;have hlK:=b9 ae aa;have C:(bp (af ae aa)).length<=30:=by unfold bp;rw[(aA _ _).length_eq];exact vR (vM _ _) M_
 obtain⟨dd,K⟩:=rA (af ae aa) (bp (af ae aa)) (gn (ca ae aa));have L:so.length<=60:=by rw[pm.length_eq];have:=K.len;lia
 have nd:(so.map λc=>(c.o,c.n)).Nodup:=(pm.map _).nodup_iff.mpr K.nod;have hp:so.Perm (aN (af ae aa)):=pm.trans (aA _ _).symm;have e8:lN [.lst ((n6 (af ae aa)).map dT)]=lT ((bp (af ae aa)).map dT):=Bh (λ_ _=>rr) (vR (vM _ _) N9) (by
  simp[cz,yw]) (by simp[c6,kA]) (List.Pairwise.map _ (λa b h e=>h (C5 e)) (pairwise_map.mp (List.Nodup.sublist (List.Sublist.map _ filter_sublist) (ca ae aa))));let U:=(n6 (af ae aa)).map dT;let R:=aE (af ae aa);let E:LN->OB->OB->OB->OB->OB->DL.Env:=λS i a b c d=>[sL ae,sI aa,sI day,sL U,sF (rH R),v5.map λy=>(y.1,false),v6.map λy=>(y.1,false),i,sL (qU (bp (af ae aa))),sF (xq so R),lT (LZ S),a,b,c,d];refine cX λ_ g'=>?_;obtain⟨ρ',e,i,a,b,c,d,rfl,_⟩:=iE (tg:=eA 11) (g:=g9) (λx:D×Nat=>.int (x.2:Int)) (λP ρ=>∃i a b c d,ρ=E (SF ae aa day P) i a b c d/\(SF ae aa day P).length<=P.length) (bp (af ae aa)) (E [] (v7.map λy=>(y.1,false)) none none none none) ⟨_,_,_,_,_,rr,vT _⟩ (by
  rintro P ⟨r,n⟩ r' ρ F ⟨i,a,b,c,d,rfl,QZ⟩;have hx:=fO.mp (show(r,n)∈bp (af ae aa) by rw[F];simp);have A:=aG hx.1;have hh:=HN (vN hx.1).2;have gr:=g _ (vL A);have sp:=Xh aa day F;have hPl:P.length<=30:=by rw[F,uZ]at C;lia
  rw[(by
   unfold SF mn gM;rw[filter_append,filter_cons,uW,List.foldl_append];split<;>rfl:SF ae aa day (P++[(r,n)])=if(decide (kindOf (r,n).1∈bg) && uh ae aa day (r,n))=true then dE (SF ae aa day P) ((r,n).2,eO ae aa (r,n))else SF ae aa day P)];generalize SF ae aa day P=S at *;have dF:∀ {S':LN}{w N b' c' d':OB},(if(decide (kindOf (r,n).1∈bg) && uh ae aa day (r,n))=true then dE S ((r,n).2,eO ae aa (r,n))else S)=S'->S'.length<=P.length+1->g9 (E S i (sI n) b c d)=some (.nx (E S' w N b' c' d'))->∃l ρ',eA 11 (.int ((r,n).2:Int)) (E S i a b c d)=some l/\(g9 l=some (.nx ρ')\/g9 l=some (.ct ρ'))/\∃i a b c d,ρ'=E (if(decide (kindOf (r,n).1∈bg) && uh ae aa day (r,n))=true then dE S ((r,n).2,eO ae aa (r,n))else S) i a b c d/\(if(decide (kindOf (r,n).1∈bg) && uh ae aa day (r,n))=true then dE S ((r,n).2,eO ae aa (r,n))else S).length<=(P++[(r,n)]).length:=λz e2 e3=>⟨_,_,rr,.inl e3,_,_,_,_,_,by rw[z],by rw[z,uZ];exact e2⟩;have kr:=dC;obtain⟨h',k,aj,rfl,dk⟩:=gr;let f:OB:=sT (.str k::aj);have go:∀ {T:FS}{res:Option Res},T (E S f (sI n) b c d)=res->ce (dq 7 (f2 cI (f2 cI (ak 0) (ak 11)) (fI 1))) T (E S i (sI n) b c d)=res:=λH=>dz (.tup (.str k::aj)) (fM rr rr A) dk.flat H;have tk:∀b,aY (f2 Bz (bF 7 0) (fA cS (ao (fS "leave") (ao (fS "paper") (ao (fS "like") (ao (fS "copy") aw)))))) (E S f (sI n) b c d)=some (decide (k∈bg)):=λb=>bC (aL (.str k) (.tup (bg.map .str)) (c9 rr 0 rr) (a5 _ rr (bc _ H9)) (eK k bg));cases hb:decide (k∈bg) with
  |false=>exact dF (S':=S) (if_neg (by show ¬(decide (k∈bg) && _)=true;rw[hb];simp)) N9 (go (bP (aD (p:=false) (q:=false) ((tk _).trans (congrArg some hb)) λh=>by cases h) rr))
  |true=>
   have j:=HN hb;obtain⟨M,O,q,rfl⟩:=dk.cd.deed.slg (dD (.inl j));have u:bJ (aY (f2 Bz (bF 7 0) (fA cS (ao (fS "leave") (ao (fS "paper") (ao (fS "like") (ao (fS "copy") aw))))))) (aY (f2 yO (bF 7 1) (ak 2))) (E S f (sI n) b c d)=some (decide (M<=day)):=aD (p:=true) ((tk _).trans (congrArg some hb)) λ_=>bC (aL (.int M) (.int day) (c9 rr 1 rr) rr rr);let G:=jj ae aa O M && oD ae aa O M;have I:(decide (kindOf (row h' k (.int M::.str O::q),n).1∈bg) && uh ae aa day (row h' k (.int M::.str O::q),n))=(decide (M<=day) && (G && (jZ ae aa n (row h' k (.int M::.str O::q)) day).isEmpty)):=by
    show(decide (k∈bg) && uh ae aa day _)=_;unfold uh gm;rw[hb,qV hh,dC,dD (.inl j)];show(true && ((true && G && decide (M<=day)) && _))=_;cases decide (M<=day)<;>simp
   rw[I]at dF |-;cases hd:decide (M<=day) with
   |false=>rw[hd]at dF;exact dF (S':=S) rr N9 (go (bP (u.trans (congrArg some hd)) rr))
   |true=>
    rw[hd,Bool.true_and]at dF;have u:=u.trans (congrArg some hd);have s:∀ {T:FS}{res:Option Res},T (E S f (sI n) (sO G) c d)=res->ce (dq 12 (fA fw (fV 0 (fV 1 (fV 8 (fV 11 aw)))))) T (E S f (sI n) b c d)=res:=λH=>dz (.bl G) (a5 _ rr (qg g aa A)) rr H;have v:bJ (aY (ak 12)) (kj (aY (fA jT (fV 0 (fV 1 (fV 8 (fV 9 (fV 11 (fV 2 aw))))))))) (E S f (sI n) (sO G) c d)=some (G && (jZ ae aa n (row h' k (.int M::.str O::q)) day).isEmpty):=(aD (bC rr) λ_=>bw (bC (a5 _ rr (CP g aa hn L hp nd A j hh day)))).trans (by rw[not_not]);cases hc:G && (jZ ae aa n (row h' k (.int M::.str O::q)) day).isEmpty with
    |false=>rw[hc]at dF;exact dF (S':=S) rr N9 (go (cV u (s (bP (v.trans (congrArg some hc)) rr))))
    |true=>
     rw[hc]at dF;have v:=v.trans (congrArg some hc);let B:=(eO ae aa (row h' k (.int M::.str O::q),n)).any (iZ S);have Q:∀d',yN (aY (ak 13)) (rX 10 (ak 11)) mv (E S f (sI n) (sO G) (sO B) d')=some (.nx (E (dE S (n,eO ae aa (row h' k (.int M::.str O::q),n))) f (sI n) (sO G) (sO B) d')):=λd'=>by
      unfold dE;refine KO (bC rr) (λh=>?_) λh=>?_
      .rw[if_pos h,dU (ds:=LZ S) (d:=.int n) (b:=false) rr rr rr (be (by rw[vI];lia))];simp[E]
      .rw[if_neg (by rw[show(eO ae aa (row h' k (.int M::.str O::q),n)).any (iZ S)=false from h];decide)];rfl
     have V:(dE S (n,eO ae aa (row h' k (.int M::.str O::q),n))).length<=P.length+1:=by
      unfold dE;split
      .rw[uZ,length_singleton];lia
      .lia
     have W:aY (f2 dL (bF 7 0) (fS "copy")) (E S f (sI n) (sO G) c d)=some (decide (k = "copy")):=aW (c9 rr 0 rr) rr;cases hk:decide (k = "copy") with
     |true=>
      obtain⟨N,d',b',m,e⟩:=nv ⟨h',k,_,rr,dk⟩ (HN hk);cases e
      have t:zh (f2 Bz (bF 7 3) (ak 10)) (f2 lD (f2 cI (f2 cI (f2 cI (ak 0) (bF 7 3)) (fI 1)) (fI 0)) (fS "leave")) (E S f (sI n) (sO G) c d)=sO B:=by
       refine(bQ (p:=decide (m∈S)) (b1:=false) (aL (.int m) (.lst (LZ S)) (c9 rr 3 rr) rr ((L3 m S).trans (by rw[rF]))) λhm=>?_).trans (congrArg (λb=>sO b) (LX sp rr rr).symm);refine cX λ_ g'=>?_;obtain⟨q',h1,_,_,_⟩:=sp m (HN hm);obtain⟨a2,k2,Y,rfl,_⟩:=g _ (vL h1);apply g';rw[vF,h1];exact aL (.str k2) (.str "leave") (aL (.tup (.str k2::Y)) (.int 0) (fM rr (c9 rr 3 rr) h1) rr (by simp[B3])) rr (by unfold lD;rw[if_pos ⟨rr,rr⟩,cu];rfl)
      exact dF rr V (go (cV u (s (cV v (aJ (cV (W.trans (congrArg some hk)) (eI t rr)) (Q d))))))
     |false=>
      have Z:k∈cM:=(by decide +kernel:∀k∈bg,decide (k = "copy")=false->k∈cM) k j hk;let X:=S.filter λm=>LB (row h' k (.int M::.str O::q)) (ae.getD m .non);have J:gB (cY (ak 10)) 1 [7,0] (eA 0) (aY (fA eW (ao (f2 cI (f2 cI (ak 2) (ak 0)) (fI 1)) (fV 1 aw)))) (ak 0) (E S f (sI n) (sO G) c d)=lT (LZ X):=d8 S (λ(m:Nat)=>.int (m:Int)) _ (λ(m:Nat)=>.int (m:Int)) rr N9 λm hm=>by
       refine cX λ_ g'=>?_;obtain⟨q',h1,_,h3,_⟩:=sp m hm;apply g';have gq:=g _ (vL h1);have:=HG gq ⟨h',k,_,rr,dk⟩ h3 Z;rw[vF,h1];refine cX λ_ g'=>?_;obtain⟨a2,k2,Y,rfl,_⟩:=gq;apply g';exact⟨_,rr,bC (a5 _ (aP (fM rr rr h1) rr) this),λ_=>⟨false,rr⟩⟩
      have t:Qx (f2 lD (ak 14) (fA eE aw)) (fA dO (fV 9 (fV 7 aw))) (E S f (sI n) (sO G) c (lT (LZ X)))=sO B:=by
       refine(kW (p:=S.any λm=>LB (row h' k (.int M::.str O::q)) (ae.getD m .non)) (b1:=false) (fH (x:=.lst (LZ X)) (y:=.lst []) (b1:=false) (b2:=true) rr (a5 [] rr (bR _ H9)) ?_) λ_=>a5 _ rr (CO g aa hn L hp nd ⟨h',k,_,rr,dk⟩ Z)).trans (congrArg (λb=>sO b) (LY sp (of_decide_eq_false hk)).symm);unfold lD;rw[if_pos ⟨by
        show(LZ X).all _=true;rw[all_eq_true];intro d a;obtain⟨n,_,rfl⟩:=vO a;rfl,rr⟩,show gV (.lst (LZ X)) (.lst [])=X.isEmpty by cases X<;>rfl]
       congr 3;rw[Bool.eq_iff_iff,not_eq_true',List.isEmpty_eq_false_iff_exists_mem,any_eq_true];exact exists_congr λm=>mem_filter
      exact dF rr V (go (cV u (s (cV v (aJ (bP (W.trans (congrArg some hk)) (bo J (br λd a=>by obtain⟨x,_,rfl⟩:=vO a;rfl) (eI t rr))) (Q _)))))))
 apply g';have HV:(SF ae aa day (bp (af ae aa))).length<=60:=gp hl aa day;have fd:aU U=true:=br λd hd=>by obtain⟨x,_,rfl⟩:=vO hd;rfl
 have fo:aU (qU (bp (af ae aa)))=true:=br λd hd=>by obtain⟨x,_,rfl⟩:=vO hd;rfl
 have ho:∀ {ρ:DL.Env},ρ[3]? = some (lT U)->gB (cY (fA lN (fV 3 aw))) 2 [] (HY [0,1]) se (ak 1) ρ=lT (qU (bp (af ae aa))):=λ{ρ} h3=>gP (bp (af ae aa)) dT _ (by show(fA _ _ _).bind _=_;rw[a5 [.lst U] (by simp[h3]) e8];rfl) N9 λx _=>⟨_,rr,false,rr⟩;exact ah rr (bo (a5 [] rr (bR _ H9)) rr (aJ (show DK 4 _=_ from rr) (aJ z (bo (ho rr) fo (KN (a5 [.lst (so.map aK),rH R] (aC (b:=true) (a5 _ rr ec) rr) (bc _ H9)) (by rw[OE rr (.inl rr)];exact (bo (a5 [] rr (bR _ H9)) rr (aJ (show Q2 [8] _ _=_ from di rr e) (am (a5 [.lst (LZ (SF ae aa day (bp (af ae aa))))] rr (xh _ N9)))))))))))
end
def abe l(a:Nat):mE l none (some a)=l.take a:=by
 show(l.drop 0).take (min _ _ - 0)=_;simp
def Xi l(a:Nat):mE l (some a) none=l.drop a:=by
 show(l.drop (min a _)).take (l.length - min a _)=_;rw[List.take_of_length_le (by rw[length_drop];simp)];simp
def CS (b:LS)(k:b.length<=900)(a:Nat)(z:Str):pT [.tup (b.map .str),.int (a:Int),.str z]=some (.tup ((b.take a++z::b.drop (a+1)).map .str),false):=by
 have M:Dz (ak 0) kI (iL (ak 1)) [some (.tup (b.map .str),false),some (.int (a:Int),false),some (.str z,false)]=some (.tup ((b.take a).map .str),false):=by
  show some _=_;rw[abe,List.map_take]
 have c:Dz (ak 0) (iL (f2 jD (ak 1) (fI 1))) kI [some (.tup (b.map .str),false),some (.int (a:Int),false),some (.str z,false)]=some (.tup ((b.drop (a+1)).map .str),false):=by
  show some (D.tup (mE _ (some ((a+1:Nat):Int)) _),false)=_;rw[Xi,map_drop]
 refine ah rr (am (fH (x:=.tup ((b.take a++[z]).map .str)) (b1:=false) (fH M (aQ rr (bc _ H9)) ?_) c ?_))
 .show(if((b.take a).map _).length+[D.str z].length<=sizeLine then some _ else none)=_;rw[if_pos (cD N8),uW];rfl
 .show(if((b.take a++[z]).map D.str).length+((b.drop (a+1)).map D.str).length<=sizeLine then some _ else none)=_;rw[if_pos (cD N8),<-uW];simp
def P9 (l:LD)(x:D):mr (l++[x]) (-1)=some x:=by rw[Bg];simp
inductive Rq:D->Prop
 |non (r:D) (h:kindOf r∉cG):Rq r
 |paper (h:Int) (aj:List D) (ps:List Str) (e:aj[5]? = some (.tup (ps.map .str))) (l:ps.length<=3):Rq (row h "paper" aj)
 |like (h:Int) (aj:List D) (m c:Nat) (z:Str) (e:aj[5]? = some (.int m)) (e2:aj[6]? = some (.tup [.tup [.int (c:Int),.str z]])):Rq (row h "like" aj)
 |copy (h:Int) (aj:List D) (m:Nat) (e:aj[2]? = some (.int m)):Rq (row h "copy" aj)
theorem yE {k:Type}{tg:FG}{g:FS}(F:k->D)(I:Nat->DL.Env->Prop):∀(l:List k)M,I l.length M->(∀j,∀x∈l,∀o,I (j+1) o->∃O,tg (F x) o=some O/\((∃v,g O=some (.rt v false))\/∃a,I j a/\(g O=some (.nx a)\/g O=some (.ct a))))->(∃v,fX tg g (l.map F) M=some (.rt v false))\/∃a,I 0 a/\fX tg g (l.map F) M=some (.nx a)
 |[],M,c,_=>.inr ⟨M,c,rY ..⟩
 |x::l,M,c,b=>by
  obtain⟨O,q,h⟩:=b _ x mX M c;rw[uY,p6,q,vJ];rcases h with⟨v,h⟩|⟨a,r,h⟩
  .exact .inl ⟨v,by rw[h]⟩
  .rcases h with h|h<;>rw[h]<;>exact yE F I l a r λj y w=>b j y (mZ _ w)
noncomputable abbrev pE (b M:LD)(q:LS)(O U a:OB):DL.Env:=[sT b,sL M,sT (q.map .str),O,U,a]
abbrev pI (b M:LD)(j:Nat)(c:DL.Env):Prop:=∃(q:LS)(O U a:_),c=pE b M q O U a/\q.length+j<=400
def TW {o:LD}{r:D}(S:Rq r)(d:b8 r){i j:Nat}(f:o[i]? = some r){q:LS}(V:q.length+(j+1)<=400)(M:LD)(O U):(∃v,eV (pE o M q (sI i) O U)=some (.rt v false))\/∃w,pI o M j w/\(eV (pE o M q (sI i) O U)=some (.nx w)\/eV (pE o M q (sI i) O U)=some (.ct w)):=by
 have P:∀ {F:DL.Env},F[0]? = some (sT o)->F[3]? = some (sI i)->f2 cI (ak 0) (ak 3) F=some (r,false):=λW X=>aL (.tup o) (.int i) (by simp[W]) (by simp[X]) (by simp[bv f]);have t:aY (f2 lD (fA bq (ao (f2 cI (ak 0) (ak 3)) aw)) (fS "like")) (pE o M q (sI i) O U)=_:=Lu (bb:=false) (a5 [r] (aP (P rr rr) rr) (i7 d.c));by_cases K:kindOf r = "like"
 .rw[qV K]at t;refine cX λy g'=>?_;obtain⟨h,aj,c,z,rfl,Z⟩:=(by
  cases S with
  |like h aj m c z e k=>exact⟨h,aj,c,z,rr,k⟩
  |non r h=>exact absurd (show kindOf r∈cG by rw[K];decide +kernel) h
  |paper=>exact absurd (show("paper" : Str) = "like" from K) s9
  |copy=>exact absurd (show("copy" : Str) = "like" from K) s9:∃h aj,∃c:Nat,∃z:Str,r=row h "like" aj/\aj[6]? = some (.tup [.tup [.int (c:Int),.str z]]));apply g';have b:cY (fA ay (ao (f2 cI (ak 0) (ak 3)) (ao (fS "changes") aw))) (iI (pE o M q (sI i) O U))=some [.tup [.int (c:Int),.str z]]:=by
   unfold cY;rw[a5 [row h "like" aj,.str "changes"] (aP (P rr rr) rr) (ba (i:=6) cc Z)];rfl
  rcases yE (tg:=HY [4,5]) (g:=qR) (λx:D=>x) (λk F=>∃(q:LS)(O U:_),F=pE o M q (sI i) O U/\q.length+(k+j)<=400) [.tup [.int (c:Int),.str z]] (pE o M q (sI i) O U) ⟨_,_,_,rr,N8⟩ (by
   rintro k y hx F ⟨q,O,U,rfl,V⟩;cases uT hx
   refine⟨pE o M q (sI i) (sI (c:Int)) (sS z),rr,?_⟩;have a:aY (f2 NF (ak 4) (fA nM (fV 2 aw))) (pE o M q (sI i) (sI (c:Int)) (sS z))=some (decide ((q.length:Int)<c)):=bC (aL (.int (c:Int)) (.int (q.length:Int)) rr (a5 [.tup (q.map .str)] rr H9) rr);by_cases R:(q.length:Int)<c
   .rw[qV R]at a;exact .inl ⟨_,aR a (am (a5 [.str "beyond",.int (i:Int)] rr (bc _ H9)))⟩
   .rw[yK R]at a;exact .inr ⟨_,⟨_,_,_,rr,N8⟩,.inl (aq a (eI (a5 _ rr (CS q N9 c z)) (show aU _=true from cw _)))⟩)with⟨v,e⟩|⟨w,⟨q,O,U,rfl,hq⟩,e⟩
  .exact .inl ⟨v,aq t (di b e)⟩
  .exact .inr ⟨_,⟨_,_,_,_,rr,N9⟩,.inl (aq t (di b e))⟩
 .rw[yK K]at t;refine .inr ⟨_,⟨q,sI i,O,U,rr,N9⟩,.inr ?_⟩;show ce (yN _ Jz mv) _ _=_;unfold ce yN;rw[t];rfl
section
variable {ae:LD}(hq:∀r∈ae,Rq r) (g:∀r∈ae,b8 r)
include hq g
theorem PD {p:LN}(K:∀i∈p,i<ae.length){m:Nat}{h:Int}{aj:LD}{k:LS}(w:ae[m]? = some (row h "paper" aj))(z:p.length<=300)(O:aj[5]? = some (.tup (k.map .str)))(R:k.length<=3):∃v,iz [.tup ae,.lst ((p++[m]).map λ(i:Nat)=>.int (i:Int))]=some (v,false):=by
 let M:LD:=(p++[m]).map λ(i:Nat)=>.int (i:Int);have U:fA ay (ao (f2 cI (ak 0) (f2 cI (ak 1) (f1 Jh (fI 1)))) (ao (fS "pieces") aw)) [sT ae,sL M,none,none,none,none]=sT (k.map .str):=by
  refine a5 [row h "paper" aj,.str "pieces"] (aP (aL (.tup ae) (.int (m:Int)) rr (aL _ (.int (-1)) rr rr ?_) (by simp[bv w])) rr) (ba (i:=5) cc O);show(mr _ (-1)).map _=_;rw[show M=p.map _++[D.int (m:Int)]from uW,P9];rfl
 have F:Tk (ak 1) (iI (pE ae M k none none none))=some ((p++[m]).reverse.map λ(i:Nat)=>.int (i:Int)):=by
  show some _=_;simp[M]
 have L:=yE (tg:=eA 3) (g:=eV) (λ(i:Nat)=>.int (i:Int)) (pI ae M) (p++[m]).reverse (pE ae M k none none none) ⟨_,_,_,_,rr,N8⟩ (by
  rintro j i o S ⟨q,a,b,c,rfl,z⟩;have o:i<ae.length:=by
   rcases mem_append.mp (List.mem_reverse.mp o)with h|h
   .exact K i h
   .rw[uT h];exact(vV w).1
  have O:=getElem_mem o;exact⟨_,rr,TW (hq _ O) (g _ O) (vU o) z _ _ _⟩)
 rcases L with⟨v,e⟩|⟨P,⟨q,a,b,c,rfl,y⟩,e⟩
 .exact⟨v,ah rr (dz _ U (show aU _=true from cw _) (He (di F e)))⟩
 .exact⟨_,ah rr (dz _ U (show aU _=true from cw _) (aJ (di F e) (am (a5 [.str "words",.tup (q.map .str)] rr (bc _ H9)))))⟩
end
theorem Bn:∀a:LI,iN (a.map .int)=some a
 |[]=>rr
 |x::a=>by
  show(iN _).map _=_;rw[Bn a];rfl
theorem FL {b:Type}p q:∀(l:List b),(∀x∈l,p x=true->q x=true)->∀x∈l,q x=true->p x=false->(l.filter p).length<(l.filter q).length
 |[],_,x,hx,_,_=>nomatch hx
 |y::l,h,x,hx,c,k=>by
  have M:(l.filter p).length<=(l.filter q).length:=by
   rw[<-List.countP_eq_length_filter,<-List.countP_eq_length_filter];exact List.countP_mono_left λz a=>h z (mZ _ a)
  rcases vP hx with rfl|hx
  .grind
  .have O:=FL p q l (λz a=>h z (mZ _ a)) x hx c k;grind
noncomputable abbrev wE (a:LD)(b:Int)(c:Nat)(M:LN)(m:Nat):DL.Env:=[sT a,sI b,sI c,lT (M.map λ(i:Nat)=>.int (i:Int)),sI m]
def Xj:FE:=Kz (fS "ring") (fA iO (ao (Dz (ak 3) (iL (f2 (Cr WP) (ak 3) (ak 4))) kI) aw))
abbrev wC:FT:=aY (f2 fY (ak 4) (ak 3))
abbrev WF (a:Nat):FS:=ce (cy wC eJ a) (za Xj)
section
variable {ae:LD}{aa:Int}{n0 a:Nat}{iG:LN}
def Mb:wC (wE ae aa n0 iG a)=some (!decide (a∈iG)):=bC (aL _ _ rr rr (by
 simp only[fY,gE,vJ];rw[if_pos ⟨rr,by
  simp⟩,AW,rF]))
def TX {k i:Nat}(h:a∈iG)(r:iG.length<=60)(o:(iG.map λ(n:Nat)=>(n:Int)).findIdx (· == (a:Int))=i):WF (k+1) (wE ae aa n0 iG a)=some (.rt (.tup [.str "ring",.lst (ja (iG.drop i))]) true):=by
 have M:=o ▸ List.findIdx_lt_length_of_exists ⟨(a:Int),uS ⟨a,h,rr⟩,H9⟩;have U:f2 (Cr WP) (ak 3) (ak 4) (wE ae aa n0 iG a)=sI (i:Int):=by
  refine aL _ _ rr rr ?_;have b:(iG.map λ(n:Nat)=>D.int (n:Int))=(iG.map λ(n:Nat)=>(n:Int)).map .int:=by rw[uP];rfl
  rw[b];show(iN _).bind _=_;rw[Bn];rw[<-o]at M |-;exact if_pos M
 have q:Dz (ak 3) (iL (f2 (Cr WP) (ak 3) (ak 4))) kI (wE ae aa n0 iG a)=lT ((iG.drop i).map λ(n:Nat)=>.int (n:Int)):=by
  have c:iL (f2 (Cr WP) (ak 3) (ak 4)) (wE ae aa n0 iG a)=some (some (i:Int)):=by unfold iL;rw[U]
  unfold Dz;rw[c];show some _=_;rw[Xi,map_drop]
 refine aJ (by
  rw[cy,Mb,qV h];rfl) (am ?_);show((fS "ring" (wE ae aa n0 iG a)).bind λx=>(fA iO _ _).bind _)=_;rw[a5 _ (aC q rr) (xh _ (by rw[length_drop];lia))];rfl
end
noncomputable def left (a:LD)(p:LN):Nat:=((List.range a.length).filter λi=>decide (i∉p)).length
section
variable {ae:LD}(hq:∀r∈ae,Rq r) (g:∀r∈ae,b8 r) (aa:Int)
include hq g
theorem TY (w a:Nat){M:LN}(R:∀i∈M,i<ae.length)(X:M.length<=100):(∃v,eJ (wE ae aa w M a)=some (.rt v false))\/a<ae.length/\∃f,eJ (wE ae aa w M a)=some (.nx (wE ae aa w (M++[a]) f)):=by
 obtain⟨p,j,k⟩:∃p,cJ [.tup ae,.int aa,.int a]=sO p/\(p=true->∃r,ae[a]? = some r/\kindOf r∈cG):=by
  cases O:ae[a]? with
  |none=>exact⟨false,ah rr (am (bQ (p:=false) (q:=false) (a5 [.tup ae,.int aa,.int a] rr (xc (List.getElem?_eq_none_iff.mp O) aa)) λz=>by cases z)),nofun⟩
  |some r=>exact⟨_,oS O (g r (vL O)) aa,λh=>⟨r,rr,HN (vC _ _ ▸ h).2⟩⟩
 have K:kj (aY (fA cJ (fV 0 (fV 1 (fV 4 aw))))) (wE ae aa w M a)=some (!p):=bw (bC (a5 [.tup ae,.int aa,.int a] rr j));cases p with
 |false=>exact .inl ⟨_,aR K (am (a5 [.str "lacks",.int (a:Int)] rr (bc _ H9)))⟩
 |true=>
  obtain⟨r,O,n⟩:=k rr;have D:∀ {F:DL.Env},F[0]? = some (sT ae)->F[4]? = some (sI a)->f2 cI (ak 0) (ak 4) F=some (r,false):=λS V=>aL (.tup ae) (.int a) (by simp[S]) (by simp[V]) (by simp[bv O]);have U:∀ {T:FS}{o:Option Res},T (wE ae aa w (M++[a]) a)=o->eJ=ce (yN (kj (aY (fA cJ (fV 0 (fV 1 (fV 4 aw)))))) (za (fA cS (ao (fS "lacks") (fV 4 aw)))) mv) (ce (rX 3 (ak 4)) T)->eJ (wE ae aa w M a)=o:=λ{T o} hT e=>by
   rw[e];exact aq K (aJ (dU rr rr rr (be (by rw[vI];lia))) (by grind))
  have P:=(vV O).1;cases hq r (vL O) with
  |non r h=>exact absurd n h
  |paper h aj Z e l=>
   obtain⟨v,W⟩:=PD hq g R O N9 e l;exact .inl ⟨v,U (aR (aW (a:="paper") (bb:=false) (a5 [row h "paper" aj] (aP (D rr rr) rr) (c8 _ _ _)) (qV rr)) (am (a5 _ rr W))) rr⟩
  |like h aj m c z e s=>exact .inr ⟨P,m,U (aq (aW (a:="like") (bb:=false) (a5 [row h "like" aj] (aP (D rr rr) rr) (c8 _ _ _)) (yK s9)) (eI (a5 [row h "like" aj,.str "of"] (aP (D rr rr) rr) (ba (i:=5) cc e)) rr)) rr⟩
  |copy h aj m e=>exact .inr ⟨P,m,U (aq (aW (a:="copy") (bb:=false) (a5 [row h "copy" aj] (aP (D rr rr) rr) (c8 _ _ _)) (yK s9)) (eI (a5 [row h "copy" aj,.str "of"] (aP (D rr rr) rr) (ba (i:=2) cc e)) rr)) rr⟩
theorem Mc (O:ae.length<=30)c:∀f(p:LN)a,left ae p<f->p.length+left ae p<=ae.length->(∀i∈p,i<ae.length)->∃v b,WF f (wE ae aa c p a)=some (.rt v b)
 |f+1,p,a,w,D,k=>by
  by_cases M:a∈p
  .exact⟨_,_,TX M N9 rr⟩
  .rcases TY hq g aa c a k N9 with⟨v,e⟩|⟨o,U,e⟩
   .exact⟨v,false,by
    refine He ?_;rw[cy,Mb,yK M];rw[Bool.not_false];rw[e]⟩
   .have:=(by
    refine FL _ _ _ (λx y hx=>?_) a (mem_range.mpr o) (qV M) (yK H9);grind:left ae (p++[a])<left ae p);rw[(by
    have:cy wC eJ (f+1) (wE ae aa c p a)=cy wC eJ f (wE ae aa c (p ++ [a]) U):=by
     rw[cy,Mb,yK M];rw[Bool.not_false];rw[e]
    show ce _ _ _=ce _ _ _;unfold ce;rw[this]:WF (f+1) (wE ae aa c p a)=WF f (wE ae aa c (p ++ [a]) U))];exact Mc O c f _ U N9 N8 λi q=>(mem_append.mp q).elim (k i) λz=>by rw[uT z];exact o
end
def PN (w:D):Prop:=w=.non\/∃s,w=.str s
noncomputable def wh4:D->D
 |.tup [_,.tup (_::aj)]=>aj.getD 4 .non
 |_=>.non
def PH (a:LD)(n:Nat):D:=wh4 (a.getD (pend a 60 n) .non)
section
variable {ae:LD}(g:∀r∈ae,b8 r) (gw:∀r∈ae,y9 r) (hl:ae.length<=30) (aa:Int) (hn:((aE (af ae aa)).map (ai 0)).Nodup) (ho:(bp (af ae aa)).length<=60)
include g gw hl
theorem FM(h:n∈kq ae aa b):PN (PH ae n)/\pV [.tup ae,.int n]=some (PH ae n,false):=by
 refine cX λy g'=>?_;obtain⟨c,o⟩:=vN (vN h).1;obtain⟨q,x,w,e,k,z,O,D,M,U,K⟩:=uj g gw hl _ (mf.mp c) o;apply g';have a:PH ae n=w:=by
  unfold PH;rw[O.pend 60 z,vF,D];obtain⟨a,k,d,b,m,e,c,rfl,y⟩:=M;rfl
 rw[a];refine⟨?_,ah rr (am (a5 _ (aP (a5 _ rr U) rr) (by
  obtain⟨a,k,d,b,m,e,c,rfl,y⟩:=M;exact ba (i:=4) (by rcases c with rfl|rfl<;>exact cc) rr)))⟩;obtain⟨y,y,y,y,y,y,y,y,F⟩:=M;exact F
end
def ZG (a:LD)(b:Int)(n:Nat):D:=match rq [.tup a,.int b,.int n] with
 |some (v,_)=>v
 |none=>.non
def abh (a:LD)(c b:Int):LD:=(kq a c b).map λ(n:Nat)=>.tup [.int (n:Int),PH a n,ZG a c n]
section
variable {ae:LD}(g:∀r∈ae,b8 r/\y9 r/\Rq r) (hl:ae.length<=30)
include g hl
theorem HJ {o:Int}(z:((aE (af ae o)).map (ai 0)).Nodup)(U:(bp (af ae o)).length<=60)(k:Int):o9 [.tup ae,.int o,.int k]=lT (abh ae o k):=by
 have q:=λr M=>(g r M).1;have w:=λr M=>(g r M).2.1;have e:=CC q w hl _ z U k;have c:(kq ae o k).length<=60:=by
  refine vR (vM _ _) (vR (vM _ _) ?_);unfold iD;rw[(aA _ _).length_eq];exact gp hl _ _
 refine ah rr (am (gP _ _ _ (by show(fA _ _ _).bind _=_;rw[a5 _ rr e];rfl) N9 λn O=>?_));obtain⟨v,b,e⟩:=(by
  have a:left ae []<=ae.length:=vR (vM _ _) H9;obtain⟨v,b,e⟩:=Mc (λr M=>(g r M).2.2) q o hl n 1000 [] n N9 (by simp[a]) nofun;exact⟨v,b,ah rr (bo (a5 [] rr (bR _ H9)) rr (dz _ rr rr e))⟩:∃v b,rq [.tup ae,.int o,.int n]=some (v,b));exact⟨[sF _,sF _,sF _],rr,false,a5 _ (aP rr (aP (a5 _ rr (FM q w hl _ O).2) (aC (a5 _ rr (e.trans (by unfold ZG;rw[e]))) rr))) (bc _ H9)⟩
end
abbrev jE (b:LD)(S:LN)(a:Int)(t:LD)(n:Nat)(v:OB):DL.Env:=[sL b,sL (ja S),sI a,lT t,sI n,v]
def PJ {K:LD}(g:∀r∈K,b8 r){k n e:Nat}(p:Pb K k n e)(S:LN)(F:Int)(t:LD)(P:Nat):∀(r:D)(z:Nat),K[n]? = some r->k<z->∃q,K[e]? = some q/\cy (aY (f2 dL (bF 5 0) (fS "copy"))) lm z (jE K S F t P (sF (xn r)))=some (.nx (jE K S F t P (sF (xn q)))):=by
 induction p with
 |here n c x w h p=>
  intro r z O V;obtain⟨f,rfl⟩:∃f,z=f+1:=⟨z - 1,N9⟩;rw[h]at O;cases O
  refine⟨c,h,?_⟩;have W:=p.nocopy;obtain⟨a,k,d,b,m,i,y,rfl,y⟩:=p;have U:aY (f2 dL (bF 5 0) (fS "copy")) (jE K S F t P (sF (xn (row a k (.int d::.str b::.int m::dY x::w::i)))))=some false:=aW (a:=k) (c9 rr 0 rr) (yK W);rw[cy,U]
 |copy k n m e a d b h p j=>
  intro r z O V;obtain⟨f,rfl⟩:∃f,z=f+1:=⟨z - 1,N9⟩;rw[h]at O;cases O
  obtain⟨l,R⟩:=p.at_;obtain⟨q,X,Z⟩:=j l f R N9;refine⟨q,X,?_⟩;refine cX λy g'=>?_;obtain⟨s,u,M,rfl,o⟩:=g _ (vL R);apply g';have U:aY (f2 dL (bF 5 0) (fS "copy")) (jE K S F t P (sF (xn (row a "copy" [.int d,.str b,.int m]))))=some true:=aW (c9 rr 0 rr) (qV rr);have v:lm (jE K S F t P (sF (xn (row a "copy" [.int d,.str b,.int m]))))=some (.nx (jE K S F t P (sT (.str u::M)))):=eI (fM rr (c9 rr 3 rr) R) o.flat;rw[cy,U,v];exact Z
section
variable {ae:LD}(g:∀r∈ae,b8 r) (gw:∀r∈ae,y9 r) (hl:ae.length<=30) (aa:Int)
include g gw hl
def CT (ae:LD)(n:Nat):D:=.tup [.int (n:Int),PH ae n]
theorem CU (R:Int):mU [.lst ae,.lst (ja (ft ae aa R)),.int R]=lT ((kq ae aa R).map (CT ae)):=by
 have A:(iD (ft ae aa R)).length<=60:=by unfold iD;rw[(aA _ _).length_eq];exact gp hl _ _
 let p:Nat->Bool:=λn=>HZ ae n && j0 R (UK ae n);have hh:kq ae aa R=(iD (ft ae aa R)).filter p:=by
  unfold kq;rw[List.filter_filter];exact List.filter_congr λn _=>Bool.and_comm ..
 let S:=ft ae aa R;obtain⟨ρ',e,i,U,rfl⟩:=iE (tg:=eA 4) (g:=A7) (λ(n:Nat)=>.int (n:Int)) (λP Y=>∃i U,Y=[sL ae,sL (ja S),sI R,lT ((P.filter p).map (CT ae)),i,U]) (iD S) [sL ae,sL (ja S),sI R,lT [],none,none] ⟨_,_,rr⟩ (by
  rintro P n I Y l ⟨i,U,rfl⟩;have hn:n∈S:=mf.mp (l ▸ by simp);have B:(P.filter p).length<=60:=vR (vM _ _) (by rw[show iD S=_ from l,uZ]at A;lia);obtain⟨r,c,_,C,_⟩:=ui g gw aa R n hn;have o:=g _ (vL c);rw[show(P++[n]).filter p=P.filter p++if p n=true then [n]else [] by rw[filter_append,filter_cons];rfl];have Z:∀ {T:FS}{X:Option Res},T (jE ae S R ((P.filter p).map (CT ae)) n (sF (xn r)))=X->ce (dq 5 (f2 cI (f2 cI (ak 0) (ak 4)) (fI 1))) T (jE ae S R ((P.filter p).map (CT ae)) n U)=X:=λD=>by
   obtain⟨a,k,aj,rfl,d⟩:=o;exact dz (.tup (.str k::aj)) (fM rr rr c) d.flat D
  cases W:HZ ae n with
  |false=>
   rw[show p n=false by show(HZ ae n && _)=false;rw[W];rfl,if_neg I9,uQ];unfold HZ at W;rw[c]at W;obtain⟨a,k,aj,rfl,d⟩:=o;have L:k = "leave":=HN ((by decide +kernel:∀k∈bg,decide (k∈cG)=false->decide (k = "leave")=true) k C W);subst L;have M:aY (f2 dL (bF 5 0) (fS "copy")) (jE ae S R ((P.filter p).map (CT ae)) n (sF (xn (row a "leave" aj))))=some false:=aW (c9 rr 0 rr) s9;have E:cy (aY (f2 dL (bF 5 0) (fS "copy"))) lm (999+1) (jE ae S R ((P.filter p).map (CT ae)) n (sF (xn (row a "leave" aj))))=some (.nx (jE ae S R ((P.filter p).map (CT ae)) n (sF (xn (row a "leave" aj))))):=by rw[cy,M]
   exact⟨_,_,rr,.inl (Z (aJ E (bP (aD (p:=false) (q:=false) (bC (aL (.str "leave") (.str "leave") (c9 rr 0 rr) rr (by unfold lD;rw[if_pos ⟨rr,rr⟩,cu,qV rr];rfl))) λh=>by cases h) rr))),_,_,rr⟩
  |true=>
   refine cX λ_ g'=>?_;obtain⟨q,x,w,e,k,L,t,hq,u,_,es⟩:=uj g gw hl aa hn W;have v:PH ae n=w:=by
    unfold PH;rw[t.pend 60 L,vF,hq];obtain⟨a,k,d,b,m,M,c,rfl,_⟩:=u;rfl
   obtain⟨J,O,N⟩:=PJ g t S R ((P.filter p).map (CT ae)) n r 1000 c N9;apply g';rw[hq]at O;cases O
   have j:p n=(decide (x.1<=R) && iF ⟨"","",0,x.2,0⟩ R):=by
    show(HZ ae n && j0 R (UK ae n))=_;rw[W,es];rfl
   rw[j];refine cX λ_ g'=>?_;obtain⟨K,Q,d',b',m,F,G,rfl,H⟩:=u;apply g';let V:=jE ae S R ((P.filter p).map (CT ae)) n (sT (.str Q::.int d'::.str b'::.int m::dY x::w::F));have y:bF 5 4 V=sF (dY x):=c9 rr 4 rr;have M:bJ (aY (f2 lD (bF 5 0) (fS "leave"))) (aY (f2 yO (f2 cI (bF 5 4) (fI 0)) (ak 2))) V=some (decide (x.1<=R)):=aD (p:=true) (bC (aL (.str Q) (.str "leave") (c9 rr 0 rr) rr (by unfold lD;rw[if_pos ⟨rr,rr⟩,cu,show decide (Q = "leave")=false by rcases G with rfl|rfl<;>decide +kernel];rfl))) λ_=>bC (aL (.int x.1) (.int R) (aL (dY x) (.int 0) y rr rr) rr rr)
   have z:=(ph ⟨"","",0,x.2,0⟩ R (ρ:=V) (f:=f2 cI (bF 5 4) (fI 1)) (g:=ak 2) (aL (dY x) (.int 1) y rr rr) rr).1;cases h1:decide (x.1<=R) with
   |false=>
    rw[Bool.false_and,if_neg I9,uQ];exact⟨_,V,rr,.inl (Z (aJ N (bP (M.trans (congrArg some h1)) rr))),_,_,rr⟩
   |true=>
    have M:=M.trans (congrArg some h1);cases h2:iF ⟨"","",0,x.2,0⟩ R with
    |false=>
     rw[Bool.and_false,if_neg I9,uQ];exact⟨_,V,rr,.inl (Z (aJ N (cV M (bP (z.trans (congrArg some h2)) rr)))),_,_,rr⟩
    |true=>
     rw[Bool.and_self,if_pos rr,uW];exact⟨_,_,rr,.inl (Z (aJ N (cV M (cV (z.trans (congrArg some h2)) (dU (d:=CT ae n) (b:=false) rr (a5 [.int n,w] (aP rr (aP (c9 rr 5 rr) rr)) ((bc _ H9).trans (by rw[<-v];rfl))) (by unfold CT;rw[v];rcases H with rfl|⟨s,rfl⟩<;>rfl) (be (by rw[vI];lia))))))),_,_,rr⟩)
 rw[hh];exact ah rr (bo (a5 [] rr (bR _ H9)) rr (aJ (di (ds:=ja S) rr (by rw[<-F5]at e;exact e)) (gy rr)))
end
def HK a{m:Int}(h:0<m):kG (.int a) (.int m)=some (.int (a % m),false):=by simp[h]
def Xk a{m:Int}(h:0<m)(b:m<1073741824):gL (.int a) (.int m)=some (.int (a / m),false):=by simp_all
def im{b:DL.Env}{a m:Int}(e:f b=sI a)(h:0<m):f2 kG f (fI m) b=sI (a % m):=aL _ _ e rr (HK a h)
def uz{b:DL.Env}{a m:Int}(e:f b=sI a)(h:0<m)(c:m<1073741824):f2 gL f (fI m) b=sI (a / m):=aL _ _ e rr (by simp_all)
def CV a{b:Int}(h : -1000000<=b/\b<=1000000):zp (.int a) (.int b)=some (.int (a*b),false):=by
 have : -18446744073709551616<b/\b<18446744073709551616:=O_
 simp_all
def yF(h : -1000000000000<=k/\k<=1000000000000):Builtin.Int.intBits k<=64:=intBits_le_64 O_ O_
def pj {o:LI}(P:To o)(k:Nat)(r:k<=100):∃c:Int,oA [.lst (o.map .int),.int k]=sI c:=by
 have M:∀q:DL.Env,q[0]? = some (sL (o.map .int))->fA nM (fV 0 aw) q=sI o.length:=λq h=>by
  simp_all
 have w:∀v:Int,Builtin.Int.intBits v<=2097152->za (f2 kG (f2 WO (ak 2) (ak 2)) (fI 2147483477)) [sL (o.map .int),sI k,sI v]=some (.rt (.int (v*v % 2147483477)) false):=λv R=>
  am (im (aL (.int v) (.int v) rr rr (by simp[R])) I9)
 by_cases h:k<o.length
 .refine⟨o.getD k 0,ah rr (aR (bC (aL (.int k) (.int o.length) rr (M _ rr) N8)) (am (aL (.lst (o.map .int)) (.int k) rr rr ?_)))⟩;have:=DZ (xs:=o) (i:=k) M_ (by simpa using h);rw[Int.toNat_natCast]at this;exact this
 .have U:Builtin.Int.intBits (60013*(k:Int)+31)<=64:=yF N9;have e:f2 jD (f2 zp (fI 60013) (ak 1)) (fI 31) [sL (o.map .int),sI k,none]=sI (60013*k+31):=aL (.int (60013*k)) (.int 31) (aL (.int 60013) (.int k) rr rr (CV _ N9)) rr rr;have f:aY (f2 Jg (ak 1) (fA nM (fV 0 aw))) [sL (o.map .int),sI k,none]=some false:=bC (aL (.int k) (.int o.length) rr (M _ rr) N8);by_cases X:0<o.length
  .have O:(0:Int)<o.length:=N9
   have Z:=mod_lt (x:=(k:Int)*23) O;obtain⟨j,S⟩:∃j:Nat,(k:Int)*23 % o.length=j:=⟨((k:Int)*23 % o.length).toNat,N9⟩;have a:j<o.length:=N9
   have z:Builtin.Int.intBits (o.getD j 0)<=1048576:=P _ (by grind);have D:f2 cI (ak 0) (f2 kG (f2 zp (ak 1) (fI 23)) (fA nM (fV 0 aw))) [sL (o.map .int),sI k,sI (60013*k+31)]=sI (o.getD j 0):=by
    refine aL (.lst (o.map .int)) (.int j) rr (S ▸ aL (.int (k*23)) (.int o.length) (aL (.int k) (.int 23) rr rr (CV _ I9)) (M _ rr) (HK _ O)) ?_;have:=DZ (xs:=o) (i:=j) N9 (by simpa using a);rw[Int.toNat_natCast]at this;exact this
   generalize o.getD j 0=x at z D;have b:(k:Int)*k<=10000/\0<=(k:Int)*k:=by
    have F:k*k<=100*100:=Nat.mul_le_mul r r;grind
   have K:f2 jD (f2 jD (f2 zp _ (fI 69621)) (f2 zp (f2 zp (ak 1) (ak 1)) (fI 6007))) (fI 13) [sL (o.map .int),sI k,sI (60013*k+31)]=sI (x*69621+k*k*6007+13):=
    aL (.int (x*69621+k*k*6007)) (.int 13) (aL (.int (x*69621)) (.int (k*k*6007)) (aL (.int x) (.int 69621) D rr (CV _ I9)) (aL (.int (k*k)) (.int 6007) (aL (.int k) (.int k) rr rr (CV _ N9)) rr (CV _ I9)) rr) rr rr
   generalize (k:Int)*k=y at b K;have d:Builtin.Int.intBits (x*69621+y*6007+13)<=2097152:=by
    have F:=intBits_mul_le z (yF (k:=69621) I9);have V:=intBits_add_le F (yF (k:=y*6007) N9);have W:=intBits_add_le V (yF (k:=13) I9);exact vR W I9
   exact⟨_,ah rr (aq f (dz (.int (60013*k+31)) e rr (aJ (cV (bC (aL (.int o.length) (.int 0) (M _ rr) rr N8)) (eI K rr)) (w _ d))))⟩
  .refine⟨_,ah rr (aq f (dz (.int (60013*k+31)) e rr (aJ (bP (bC (aL (.int o.length) (.int 0) (M _ rr) rr (by rw[show(o.length:Int)=0 by grind];rfl))) rr) (w (60013*k+31) (vR U I9)))))⟩
def TZ {a:DL.Env}{i n:Nat}{ds:LD}{M O:FE}{d:D}{b b':Bool}(e:a[i]? = some (some (.lst ds,true)))(c:O a=some (d,b))(k:M a=some (.int n,b'))(o:n<ds.length)(q:bi d=true):NY i M O a=some (.nx (a.set i (some (.lst (ds.set n d),true)))):=by
 simp_all[HX]
def QO (x:Int):0<=x % 26/\x % 26<26:=mod_lt C_
noncomputable def u0:PySem.Str:="abcdefghijklmnopqrstuvwxyz"
def PK (x:Int):Nat:=u0.cps.toList.getD (x % 26).toNat 0
def Me x:cI (.str u0) (.int (x % 26))=sS ⟨#[PK x]⟩:=DL.BH (mod_lt C_).1 (by simp[(s9:u0.cps.size=26),QO]) s9
def Mf:∀i:_root_.Fin 26,ul (u0.cps.toList.getD i.val 0)=true:=s9
def Mg:∀i j:_root_.Fin 26,u0.cps.toList.getD i.val 0=u0.cps.toList.getD j.val 0->i=j:=s9
def FN x:ul (PK x)=true:=Mf ⟨(x % 26).toNat,N9⟩
def PL(h:PK x=PK y):x % 26=y % 26:=by
 have:=Mg ⟨(x % 26).toNat,N9⟩ ⟨(y % 26).toNat,N9⟩ h;grind
def sg (a:LN):LS:=a.map λc=>⟨#[c]⟩
theorem Mh:∀a:LN,((sg a).map (·.length)).sum=a.length
 |[]=>rr
 |c::a=>by
  show 1+((sg a).map _).sum=a.length+1;rw[Mh a];lia
theorem Bo:∀(c:LS)y,(Str.join "" (y::c)).cps.toList=(y::c).flatMap λz=>z.cps.toList
 |[],y=>by rw[flatMap_cons,List.flatMap_nil,uQ];rfl
 |z::r,y=>by
  have M:∀a b:Str,(a++b).cps.toList=a.cps.toList++b.cps.toList:=λa b=>by show(a.cps++b.cps).toList=_;simp
  show(y++""++Str.join _ _).cps.toList=_;rw[M,M,Bo r z,show("" : Str).cps.toList=[]from rr,uQ];rfl
def Mi(h:a≠[]):(Txt.join "" a).cps.toList=a.flatMap λz=>z.cps.toList:=by
 cases a with
 |nil=>exact absurd rr h
 |cons y a=>
  simp[Txt.join,StrLaws.glued_eq_join,Bo]
def CW(h:cs≠[]):(Txt.join "" (sg cs)).cps.toList=cs:=by
 simp_all[Mi,sg,List.flatMap_map]
def Xl(b:1<=a.length)(M:a.length<=8)(k:∀c∈a,ul c=true):qe (Txt.join "" (sg a))=true:=by
 have e:=CW (cs:=a) (λz=>by rw[z]at b;cases b);unfold qe;rw[<-Ba];simp_all
def PM a(h:a.length<=1000):Jt (.str "") (.lst ((sg a).map .str))=sS (Txt.join "" (sg a)):=by
 show(fU _).bind _=_;rw[oH];show(if _ then _ else _)=_;rw[Mh,show("" : Str).length=0 from rr,if_pos N9]
def Mj (c:Int):∃P:LS,pW [.int c]=lT (P.map .str)/\Nm7 P:=by
 have t:=mod_lt (x:=c) (m:=8) I9;obtain⟨n,u⟩:∃n:Nat,1+c % 8=n:=⟨(1+c % 8).toNat,N9⟩;let F:LN:=(List.range n).map λ(k:Nat)=>PK (c / (3+4*k));have O:F.length=n:=by simp[F]
 have f:∀x∈F,ul x=true:=λx hx=>by obtain⟨k,Y,rfl⟩:=vO hx;exact FN _
 have R:=gP (fi:=kJ (f2 jD (fI 1) (f2 kG (ak 0) (fI 8)))) (nT:=1) (cap:=[1,0]) (tg:=eA 0) (fe:=f2 cI (ak 1) (f2 kG (f2 gL (ak 2) (f2 jD (fI 3) (f2 zp (fI 4) (ak 0)))) (fI 26)))
  (ρ:=[sI c,sS u0,none,none,none,none,none]) (List.range n) (λ(k:Nat)=>.int k) _
  (by rw[gX (j:=n) (b:=false) (u ▸ aL (.int 1) (.int (c % 8)) rr (im rr I9) rr) N9,Hb,uP];rfl) N8 λk S=>by
   have S:=mem_range.mp S;exact⟨_,rr,false,aL (.str u0) (.int (c / (3+4*k) % 26)) rr (im (aL (.int c) (.int (3+4*k)) rr (aL (.int 3) (.int (4*k)) rr (aL (.int 4) (.int k) rr rr (CV _ N9)) rr) (Xk _ N9 N9)) I9) (Me _)⟩
 have q:(List.range n).map (λ(k:Nat)=>D.str ⟨#[PK (c / (3+4*k))]⟩)=(sg F).map .str:=by simp[sg,F]
 rw[q]at R;have r:=mod_lt (x:=c / 8) (m:=n) N9;obtain⟨a,v⟩:∃a:Nat,c / 8 % n=a:=⟨(c / 8 % n).toNat,N9⟩;have U:a<F.length:=N9
 let w:Nat->LN:=λi=>F.set a (PK (c / 64+3*i));have M:∀i,(w i).length=n:=λi=>by simp[w,O]
 obtain⟨y,e,o,p,rfl⟩:=o3 (tg:=eA 5) (g:=Cz) 7 (λi V=>∃o p:OB,V=[sI c,sS u0,lT ((sg F).map .str),sI a,lT (((List.range i).map λi=>Txt.join ("" : Str) (sg (w i))).map .str),o,p])
  _ ⟨none,none,rr⟩ (by
   rintro i V K ⟨o,p,rfl⟩;have W:((sg F).map D.str).set a (.str ⟨#[PK (c / 64+3*i)]⟩)=(sg (w i)).map .str:=by simp only[sg,w,uP,List.map_set,Function.comp]
   refine⟨_,_,rr,.inl (bo (ds:=(sg F).map .str) H9 (cw _) (aJ (TZ (n:=a) (ds:=(sg F).map .str) (d:=.str ⟨#[PK (c / 64+3*i)]⟩) (b:=false) (b':=false) rr ?_ rr (by simpa [sg]using U) rr) (dU (d:=.str (Txt.join ("" : Str) (sg (w i)))) (b:=false) rr ?_ rr (be N8)))),some (.int i,false),some (.lst ((sg (w i)).map .str),true),?_⟩
   .exact aL (.str u0) (.int ((c / 64+3*i) % 26)) rr (im (aL (.int (c / 64)) (.int (3*i)) (uz rr I9 I9) (aL (.int 3) (.int i) rr rr (CV _ N9)) rr) I9) (Me _)
   .rw[W];exact aL (.str "") (.lst ((sg (w i)).map .str)) rr rr (PM _ (by rw[M];lia))
   .rw[W,List.range_succ];simp)
 refine⟨(List.range 7).map λi=>Txt.join ("" : Str) (sg (w i)),ah rr (dz (.str u0) rr rr (bo R (cw _) (dz (.int a) ?_ rr (bo (ds:=[]) H8 rr (aJ (kU (gX (j:=7) (b:=false) rr I9) e) (gy rr)))))),H9,?_,λz A=>?_⟩
 .rw[<-v];refine aL (.int (c / 8)) (.int n) (uz rr I9 I9) ?_ (HK _ N9);refine a5 [.lst ((sg F).map .str)] (aP rr rr) ?_;rw[jL];simp[sg,O]
 .refine pairwise_map.mpr (List.Pairwise.imp_of_mem ?_ (List.nodup_range (n:=7)));intro i j K X s e;have e:=congrArg (λz:Str=>z.cps.toList) e;have e:w i=w j:=by
   have Z:∀i,w i≠[]:=λi z=>by have:=M i;rw[z]at this;simp at this;lia
   simpa only[CW (Z i),CW (Z j)]using e
  have e:=congrArg (λl:LN=>l[a]?) e;simp only[w,getElem?_set_self U,Option.some.injEq]at e;have:=PL e;have K:=mem_range.mp K;have X:=mem_range.mp X;lia
 .obtain⟨i,_,rfl⟩:=vO A;refine Xl (by rw[M];lia) (by rw[M];lia) λx hx=>?_;rcases List.mem_or_eq_of_mem_set hx with h|h
  .exact f x h
  .rw[h];exact FN _
def PV (p:Str)(d:D):Bool:=ZD (dM [.str p,d]) (.bl true) false
def kh:LS->LD->Bool
 |p::a,d::b=>PV p d && kh a b
 |_,_=>true
theorem mh:∀ {a:LS}{b:LD},kh a b=true->∀x∈a.zip b,dM [.str x.1,x.2]=some (.bl true,false)
 |[],_,_,x,h=>by simp at h
 |_::_,[],_,x,h=>by simp at h
 |p::a,d::b,c,x,h=>by
  have c:=vC _ _ ▸ c;rcases vP h with rfl|h
  .exact yp c.1
  .exact mh c.2 x h
def aF(h:PV p d=true)(r:kh a b=true):kh (p::a) (d::b)=true:=by unfold kh;rw[h,r];rfl
def ki:∀n:_root_.Fin 16,PV "day" (.int (n.val:Int))=true:=s9
def QP:∀n:_root_.Fin 30,PV "of" (.int (n.val:Int))=true:=s9
def Mk:∀n:_root_.Fin 4,PV "further" (.int (n.val:Int))=true:=s9
noncomputable def MK:LN:=[1,2,3,5,7]
def yG:∀m∈MK,PV "matters" (.int ((m:Nat):Int))=true:=s9
def CY:∀m∈MK,m∈MS:=I9
noncomputable def PP (d:Nat):List (Int×OI):=[(0,none),(0,some 30),(1,some 20),(d,some (d+8)),(d+1,none),(3,some 12)]
def yH:∀d:_root_.Fin 16,∀x∈PP d.val,PV "stretch" (dY x)=true:=s9
def Ml:∀n:_root_.Fin 18,PV "since" (.int (n.val:Int))=true:=s9
def xr(h:dM [.str p,d]=some (.bl true,false)):PV p d=true:=by unfold PV;rw[h];rfl
def u5(h:qe z=true):PV "by" (.str z)=true:=xr (ah rr (aq (c2 s9) (aR (c3t s9) (am (aQ rr (l5 h))))))
def Bp(h:qe z=true):PV "person" (.str z)=true:=xr (ah rr (aq (c2 s9) (aR (c3t s9) (am (aQ rr (l5 h))))))
def yI(h:qe z=true):PV "office" (.str z)=true:=xr (ah rr (aq (c2 s9) (aR (c3t s9) (am (aQ rr (l5 h))))))
def Mm:PV "whom" .non=true:=s9
def Xm(h:qe z=true):PV "whom" (.str z)=true:=
 xr (ah rr (aq (c2 s9) (aq (c3 s9) (aR (cq s9) (am ((kW (p:=false) (b1:=false) (by simp ) λy=>a5 _ rr (l5 h)).trans rr))))))
def Ua {ps:LS}(a:1<=ps.length)(M:ps.length<=8)(h:∀p∈ps,qe p=true):PV "pieces" (.tup (ps.map .str))=true:=xr (Hw (CD a M h))
def Ub {c:Nat}{z:Str}(r:c<3)(h:qe z=true):PV "changes" (.tup [.tup [.int (c:Int),.str z]])=true:=by
 have M:iR [.tup [.int (c:Int),.str z]]=some (.bl true,false):=ah rr (aq (b7 (p:=false) (q:=false) q9 λy=>by simp) (am ((bQ (p:=true) (q:=true) (b1:=false) (a5 [.int (c:Int),.int 0,.int 7] (by rfl) (xj M_ N9)) λy=>a5 [.str z] (by simp[KY]) (ah rr (am (aQ rr (l5 h))))).trans rr)));have a:=gP (fi:=cY (ak 0)) (nT:=1) (cap:=[]) (tg:=eA 0) (fe:=fA iR (fV 0 aw)) (ρ:=[sT [.tup [.int (c:Int),.str z]],none]) [()] _ (λy=>.bl true) rr I9 λy y=>⟨[sT [.int (c:Int),.str z]],rr,false,a5 [.tup [.int (c:Int),.str z]] rr M⟩;have k:=gP (fi:=cY (ak 0)) (nT:=1) (cap:=[]) (tg:=eA 0) (fe:=bF 0 0) (ρ:=[sT _,none]) [()] _ (λy=>.int (c:Int)) rr I9 λy y=>⟨[sT [.int (c:Int),.str z]],rr,false,by simp[B3]⟩;have o:=gP (fi:=Jy (ak 1) (Dz (ak 1) (iL (fI 1)) kI)) (nT:=2) (cap:=[]) (tg:=HY [0,1]) (fe:=f2 Jg (ak 0) (ak 1)) (ρ:=[sT [.tup [.int (c:Int),.str z]],lT [.int (c:Int)]]) ([]:List Unit) (λy=>.non) (λy=>.bl true) q9 I9 λy h=>nomatch h;have O:jN [.tup [.tup [.int (c:Int),.str z]]]=some (.bl true,false):=ah rr (aq (b7 (p:=false) (q:=false) H9 λy=>bw (p:=true) (ci (b:=false) (aQ (ds:=[.lst [.bl true]]) (aC (b:=true) a rr) (by
  simp)))) (bo (ds:=[.int (c:Int)]) k rr (am (aQ (ds:=[.lst []]) (aC (b:=true) o rr) (by
  simp)))));exact xr (ah rr (aq (c2 s9) (aq (c3 s9) (aq (cq s9) (aq (cq s9) (aq (cq s9) (aq (cq s9) (aq (cq s9) (aq (cq s9) (aq (cq s9) (am (aQ rr O))))))))))))
def ip1:jk ("office" : Str)=false:=s9
def ip2:jk ("matters" : Str)=false:=s9
def ip3:jk ("further" : Str)=false:=s9
def ZH:jk ("day" : Str)=false:=s9
def ip6:jk ("person" : Str)=true:=s9
def ip8:jk ("by" : Str)=true:=s9
def QQ {w:LS}{k c:Nat}{h:Int}{b:Str}{r:LD}(a o:LS)(z:zy cE (.str b)=some (.tup (a.map .str),false))(F:a.length=(D.int (c:Int)::r).length)(K:kh a (.int (c:Int)::r)=true)(P:CF (a.zip (.int (c:Int)::r))=o.map .str)(U:∀s∈o,s∈w)(V:(r.all λd=>bi d && !Gx d)=true)(q:(c:Int)<=h)(R:decide (o.length<=2)=true:=by rfl)(O:decide (r.length<=9)=true:=by rfl)(M:(decide (b = "root") || decide (b = "chosen"))=false:=by decide +kernel)(S:mK cE (.str b) (.str "day")=sI 0:=by exact cc):DeedG w k h b (.int (c:Int)::r):=
 have M:=Bool.or_eq_false_iff.mp M
 ⟨⟨a,o,z,F,mh K,P,HN R,U⟩,by grind,λd q=>by
  rcases vP q with rfl|q
  .exact⟨rr,rr⟩
  grind,.inr ⟨of_decide_eq_false M.1,⟨c,_,rr,q,N9,λe=>absurd e (of_decide_eq_false M.2)⟩,S⟩⟩
def FP x:(bi (dY x) && !Gx (dY x))=true:=by rw[iB];rfl
structure Dw (zs:List Str)(k day:Nat)(kind:Str)(aj:List D):Prop where
 dd:Dd kind aj
 g:∀h:Int,(day:Int)<=h->DeedG zs k h kind aj
 w:∀h:Int,y9 (row h kind aj)
 p:kind = "leave" \/ kind = "named"->∃a b p l,aj=a::b::.str p::l/\p∈zs.take 5
 q:∀h:Int,Rq (row h kind aj)
def nq{aj:LD}(e:decide (a∈cG)=false)h:Rq (row h a aj):=.non _ (of_decide_eq_false e)
def Uc {a:Str}{P:Prop}(e:(decide (a = "leave") || decide (a = "named"))=false):a = "leave" \/ a = "named"->P:=N9
def now {a:Str}{aj:LD}h(e:(decide (a = "paper") || decide (a = "like"))=false):y9 (row h a aj):=λz=>by
 have e:=Bool.or_eq_false_iff.mp e;rcases z with z|z
 .exact absurd z (of_decide_eq_false e.1)
 .exact absurd z (of_decide_eq_false e.2)
section
variable {zs:LS}(z7:Nm7 zs) {k day n:Nat}{by_ Bu:Str}(hd:day<16) (hb:by_∈zs)
include z7 hd hb
theorem PQ (a:Str)(b:a = "death" \/ a = "lost" \/ a = "found"):Dw zs k day a [.int (day:Int),.str by_]:=by
 refine⟨.three _ b _ _,λh c=>?_,λh=>now h (by rcases b with rfl|rfl|rfl<;>decide +kernel),Uc (by rcases b with rfl|rfl|rfl<;>decide +kernel),nq (by rcases b with rfl|rfl|rfl<;>decide +kernel)⟩
 rcases b with rfl|rfl|rfl<;>exact QQ ["day","person"] [by_] cc rr (aF (ki ⟨day,hd⟩) (aF (Bp (z7.nm _ hb)) rr)) (by rfl) (by simpa using hb) rr c
theorem Mn (c:n<30)(a:Str)(b:a = "copy" \/ a = "call"):Dw zs k day a [.int (day:Int),.str by_,.int (n:Int)]:=by
 refine⟨.copy _ b _ _ _,λh o=>?_,λh=>now h (by rcases b with rfl|rfl<;>decide +kernel),Uc (by rcases b with rfl|rfl<;>decide +kernel),λh=>by rcases b with rfl|rfl;exact .copy h _ n rr;exact nq s9 h⟩
 rcases b with rfl|rfl<;>exact QQ ["day","by","of"] [by_] cc rr (aF (ki ⟨day,hd⟩) (aF (u5 (z7.nm _ hb)) (aF (QP ⟨n,c⟩) rr))) (by rfl) (by simpa using hb) rr o
theorem FQ (a:by_∈zs.take 5)(M:Bu∈zs):Dw zs k day "named" [.int (day:Int),.str Bu,.str by_]:=
 ⟨.named _ _ _,λh b=>QQ ["day","office","person"] [by_] cc rr (aF (ki ⟨day,hd⟩) (aF (xr (yA s9 s9 (l5 (z7.nm _ M)))) (aF (Bp (z7.nm _ hb)) rr))) (by rfl) (by simpa using hb) rr b,λh=>now h s9,λz=>⟨_,_,_,_,rr,a⟩,nq s9⟩
theorem Mo (M:Bu∈zs){o:Str}(O:o∈zs){s:Nat}(c:day<=s)(a:s<18):Dw zs k day "chosen" [.int (day:Int),.str by_,.str o,.str Bu,.int (s:Int)]:=by
 refine⟨.chosen _ _ _ _ _,λh b=>⟨⟨["day","by","office","person","since"],[by_,Bu],cc,rr,mh (aF (ki ⟨day,hd⟩) (aF (u5 (z7.nm _ hb)) (aF (xr (yA s9 s9 (l5 (z7.nm _ O)))) (aF (Bp (z7.nm _ M)) (aF (Ml ⟨s,a⟩) rr))))),q9,C_,by simp[hb,M]⟩,C_,λd hd=>?_,.inr ⟨s9,⟨day,_,rr,b,N9,λz=>⟨_,_,_,s,rr,N9⟩⟩,cc⟩⟩,λh=>now h s9,Uc s9,nq s9⟩;simp at hd;rcases hd with rfl|rfl|rfl|rfl|rfl<;>exact⟨rr,rr⟩
end
def eY {c:Type}(l:List c)(F:c->D){ρ:DL.Env}{fl fx:FE}{b:Bool}{a m:Int}(M:fl ρ=some (.lst (l.map F),b))(o:fx ρ=sI a)(k:0<m)(r:m<=l.length):∃x∈l.take m.toNat,f2 cI fl (f2 kG fx (fI m)) ρ=some (F x,false):=by
 have h:=mod_lt (x:=a) k;obtain⟨j,q⟩:∃j:Nat,a % m=j:=⟨(a % m).toNat,N9⟩;have w:j<l.length:=N9
 refine⟨l[j],List.mem_take_iff_getElem.mpr ⟨j,N9,rr⟩,fH M (q ▸ im o k) ?_⟩;have:(l.map F)[j]? = some (F l[j]):=by simp_all
 simp[bv this]
def pq {a:LS}(M:Nm7 a)(j:Nat)(c:j<7):∃z∈a,∀ {b:DL.Env}{i:Nat},b[i]? = some (sL (a.map .str))->bF i j b=sS z:=by
 have k:j<a.length:=by rw[M.len];exact c
 refine⟨a[j],getElem_mem k,λ{b i} h=>?_⟩;simp_all[bv]
def j7 (r:D):Bool:=decide (kindOf r∈[("leave" : Str),"named"])
def ZI (o:LS)(k:LD):Prop:=(∀r∈k,∃h c aj,r=row h c aj/\(c = "leave" \/ c = "named"->∃a b p l,aj=a::b::.str p::l/\p∈o.take 5))/\∃r∈k,j7 r=true
def Bt {F:LS}(t:Nm7 F){z:LD}(g:ZI F z)(B:z.length<=100)(c:Int):∃p∈F.take 5,lU [.lst z,.int c,.lst (F.map .str)]=sS p:=by
 have s:∀r∈z,j7 r=true->∃h k a b p l,r=row h k (a::b::.str p::l)/\ai 2 r=p/\p∈F.take 5:=λr O K=>by
  obtain⟨h,k,aj,rfl,P⟩:=g.1 r O;have:k∈[("leave" : Str),"named"]:=HN K;obtain⟨a,b,p,l,rfl,V⟩:=P (by simpa using this);exact⟨h,k,a,b,p,l,rr,rr,V⟩
 have W:=d8 (fi:=cY (ak 0)) (nT:=1) (cap:=[]) (tg:=eA 0) (c:=aY (f2 Bz (f2 cI (bF 0 1) (fI 0)) (fA cS (ao (fS "leave") (ao (fS "named") aw))))) (fe:=f2 cI (bF 0 1) (fI 3))
  (ρ:=[sL z,sI c,sL (F.map .str),none]) z (λr=>r) j7 (λr=>.str (ai 2 r)) H9 N9 λr O=>by
   obtain⟨h,k,aj,e,Y⟩:=g.1 r O;refine⟨_,rr,bC (aL (.str k) (.tup [.str "leave",.str "named"]) ?_ (a5 [.str "leave",.str "named"] rr (bc _ I9)) ?_),λK=>⟨false,?_⟩⟩
   .subst e;simp[cR,row,KY,B3]
   .rw[show j7 r=decide (k∈[("leave" : Str),"named"]) by subst e;rfl];exact eK _ [("leave" : Str),"named"]
   .refine cX λY g'=>?_;obtain⟨h,k,a,b,p,l,rfl,R,Y⟩:=s r O K;apply g';rw[R];have Z:mr (D.str k::a::b::.str p::l) 3=some (.str p):=by have:=jK (xs:=D.str k::a::b::.str p::l) (j:=3) H9;simpa using this
    simp[cR,row,KY,Z]
 obtain⟨w,U,f⟩:=g.2;have u:0<(z.filter j7).length:=List.length_pos_of_mem (mem_filter.mpr ⟨U,f⟩);have M:aU ((z.filter j7).map λr=>D.str (ai 2 r))=true:=br λd y=>by obtain⟨x,Y,rfl⟩:=vO y;rfl
 by_cases V:0<c % 5
 .have S:(0:Int)<((z.filter j7).length:Nat):=N9
  refine cX λY g'=>?_;obtain⟨x,hx,X⟩:∃x∈z.filter j7,f2 cI (ak 3) (f2 kG (f2 gL (ak 1) (fI 5)) (fA nM (fV 3 aw))) [sL z,sI c,sL (F.map .str),lT ((z.filter j7).map λr=>.str (ai 2 r))]=some (.str (ai 2 x),false):=by
   obtain⟨j,A⟩:∃j:Nat,c / 5 % ((z.filter j7).length:Nat)=j:=⟨(c / 5 % ((z.filter j7).length:Nat)).toNat,by have:=mod_lt (x:=c / 5) S;lia⟩;have i:j<(z.filter j7).length:=by have:=mod_lt (x:=c / 5) S;simp_all
   refine⟨(z.filter j7)[j],getElem_mem i,aL (.lst ((z.filter j7).map λr=>.str (ai 2 r))) (.int j) rr (A ▸ aL (.int (c / 5)) (.int ((z.filter j7).length:Nat)) (uz rr I9 I9) (a5 [.lst ((z.filter j7).map λr=>.str (ai 2 r))] (aP rr rr) (by rw[jL,vI])) (HK _ S)) ?_⟩;have:((z.filter j7).map λr=>D.str (ai 2 r))[j]? = some (.str (ai 2 (z.filter j7)[j])):=by simp_all
   simp[bv this]
  obtain⟨n,o⟩:=vN hx;obtain⟨h,k,a,b,p,l,Y,R,q⟩:=s x n o;apply g';rw[R]at X;exact⟨p,q,ah rr (bo W M (aR (bC (aL (.int (c % 5)) (.int 0) (im rr I9) rr N8)) (am X)))⟩
 .obtain⟨p,P,v⟩:=eY F D.str (ρ:=[sL z,sI c,sL (F.map .str),lT ((z.filter j7).map λr=>.str (ai 2 r))]) (fl:=ak 2) (fx:=f2 gL (ak 1) (fI 5)) (b:=false) (a:=c / 5) (m:=5) rr (uz rr I9 I9) I9 (by rw[t.len];decide);exact⟨p,P,ah rr (bo W M (aq (bC (aL (.int (c % 5)) (.int 0) (im rr I9) rr N8)) (am v)))⟩
noncomputable def mB:LS:=[("leave" : Str),"paper","like","copy","call"]
def lt4:∀f∈([3,2,2,1,0]:LN),f<4:=I9
def mk6:∀m∈([7,7,3,5,1,2]:LN),m∈MK:=I9
def Uf {a:LS}{p:Str}(h:p∈a):Cr okS (.lst (a.map .str)) (.str p)=sI (pM a p):=by
 show(fU _).bind _=_;rw[oH];show(if pM a p<a.length then _ else _)=_;simp_all[pM]
section
variable {zs:LS}(z7:Nm7 zs) {ae:LD}(g:ZI zs ae) (hl:ae.length<=23) (k day:Nat) (hd:day<16) (c:Int)
include z7 g hl hd
theorem HM (K:Str)(R:K∈mB):∃aj,mS [.lst ae,.str K,.int day,.int c,.lst (zs.map .str)]=sT (.str K::aj)/\Dw zs k day K aj:=by
 obtain⟨p,U,s⟩:=Bt z7 g N9 c;have P:p∈zs:=mem_of_mem_take U;obtain⟨m,S,t⟩:=eY ([7,7,3,5,1,2]:LN) (λm=>.int (m:Int)) (ρ:=[sL ae,sS K,sI day,sI c,sL (zs.map .str),sS p,none,none,none,none]) (fl:=fA eE (ao (fI 7) (ao (fI 7) (ao (fI 3) (ao (fI 5) (ao (fI 1) (ao (fI 2) aw))))))) (fx:=f2 gL (ak 3) (fI 40)) (b:=true) (a:=c / 40) (m:=6) (a5 [.int 7,.int 7,.int 3,.int 5,.int 1,.int 2] rr (bR _ I9)) (uz rr I9 I9) I9 I9;have S:=mk6 m (mem_of_mem_take S);obtain⟨x,hx,H⟩:=eY (PP day) dY (ρ:=[sL ae,sS K,sI day,sI c,sL (zs.map .str),sS p,sI m,none,none,none])
  (fl:=fA eE (ao (fA cS (ao (fI 0) (ao (fC .non) aw))) (ao (fA cS (ao (fI 0) (ao (fI 30) aw))) (ao (fA cS (ao (fI 1) (ao (fI 20) aw))) (ao (fA cS (fV 2 (ao (f2 jD (ak 2) (fI 8)) aw))) (ao (fA cS (ao (f2 jD (ak 2) (fI 1)) (ao (fC .non) aw))) (ao (fA cS (ao (fI 3) (ao (fI 12) aw))) aw)))))))
  (fx:=f2 gL (ak 3) (fI 240)) (b:=true) (a:=c / 240) (m:=6) (a5 ((PP day).map dY) (aP (a5 [.int 0,.non] rr (bc _ H9)) (aP (a5 [.int 0,.int 30] rr (bc _ H9)) (aP (a5 [.int 1,.int 20] rr (bc _ H9)) (aP (a5 [.int day,.int (day+8)] rr (bc _ H9)) (aP (a5 [.int (day+1),.non] rr (bc _ H9)) (aP (a5 [.int 3,.int 12] rr (bc _ H9)) rr)))))) (bR _ (by simp[PP]))) (uz rr I9 I9) I9 (by simp[PP])
 have hx:x∈PP day:=mem_of_mem_take hx;let E:OB->OB->DL.Env:=λa b=>[sL ae,sS K,sI day,sI c,sL (zs.map .str),sS p,sI m,some (dY x,false),a,b];have M:∀w,aY (f2 dL (ak 1) (fS w)) (E none none)=some (decide (K=w)):=λw=>bC (aL (.str K) (.str w) rr rr (yB _ _));have V:∀(q:Int),0<q->q<1073741824->∃n:Nat,n<30/\∀a b,f2 kG (f2 gL (ak 3) (fI q)) (f2 jD (fA nM (fV 0 aw)) (fI 1)) (E a b)=sI n:=λq u I=>by
  have h:=mod_lt (x:=c / q) (m:=(ae.length:Int)+1) N9;refine⟨(c / q % ((ae.length:Int)+1)).toNat,N9,λa b=>?_⟩;rw[Int.toNat_of_nonneg h.1];exact aL (.int (c / q)) (.int (ae.length+1)) (uz rr u I) (aL (.int ae.length) (.int 1) (a5 [.lst ae] rr jL) rr rr) (HK _ N9)
 refine cX λ_ g'=>?_;obtain⟨n,X,Z⟩:=V 1440 I9 I9;obtain⟨v,e,i⟩:=V 4320 I9 I9;obtain⟨l,J,y⟩:=pq z7 0 I9;obtain⟨o,L,z⟩:=pq z7 1 I9;obtain⟨r,N,Q⟩:=pq z7 2 I9;obtain⟨O,Y,A⟩:=pq z7 3 I9;apply g';have W:∀ {T:FS}{d:D},T (E none none)=some (.rt d false)->ce (dq 5 (fA lU (fV 0 (fV 3 (fV 4 aw))))) (ce (dq 6 _) (ce (dq 7 _) T)) [sL ae,sS K,sI day,sI c,sL (zs.map .str),none,none,none,none,none]=some (.rt d false):=λB=>
  dz (.str p) (a5 [.lst ae,.int c,.lst (zs.map .str)] rr s) rr (dz (.int m) t rr (dz (dY x) H (iB _) B))
 simp only[mB,mem_cons,not_mem_nil,or_false]at R;rcases R with rfl|rfl|rfl|rfl|rfl
 .obtain⟨q,hq,eq⟩:=eY zs D.str (ρ:=E none none) (fl:=ak 4) (fx:=f2 jD (f2 jD (f2 (Cr okS) (ak 4) (ak 5)) (fI 1)) (f2 kG (f2 gL (ak 3) (fI 1440)) (fI 4))) (b:=false) (a:=(pM zs p:Int)+1+c / 1440 % 4) (m:=5) rr
   (aL (.int ((pM zs p:Int)+1)) (.int (c / 1440 % 4)) (aL (.int (pM zs p)) (.int 1) (aL (.lst (zs.map .str)) (.str p) rr rr (Uf P)) rr rr) (im (uz rr I9 I9) I9) rr) I9 (by rw[z7.len];decide)
  obtain⟨f,hf,C⟩:=eY ([3,2,2,1,0]:LN) (λm=>.int (m:Int)) (ρ:=E (sS q) none) (fl:=fA eE (ao (fI 3) (ao (fI 2) (ao (fI 2) (ao (fI 1) (ao (fI 0) aw)))))) (fx:=f2 gL (ak 3) (fI 5760)) (b:=true) (a:=c / 5760) (m:=5) (a5 [.int 3,.int 2,.int 2,.int 1,.int 0] rr (bR _ H9)) (uz rr I9 I9) I9 I9;exact⟨_,ah rr (W (aR ((M "leave").trans s9) (dz (.str q) eq rr (am (a5 [.str "leave",.int day,.str p,.str q,.int m,dY x,.int f] (aP rr (aP rr (aP rr (aP rr (aP rr (aP rr (aP C rr))))))) (bc _ H9)))))),by
   have M:=mem_of_mem_take hq;exact⟨.leave _ _ _ m (CY m S) x _,λh c=>QQ ["day","by","person","matters","stretch","further"] [p,q] cc rr (aF (ki ⟨day,hd⟩) (aF (u5 (z7.nm _ P)) (aF (Bp (z7.nm _ M)) (aF (yG m S) (aF (yH ⟨day,hd⟩ x hx) (aF (Mk ⟨f,(lt4 f (mem_of_mem_take hf))⟩) rr)))))) q9 (by simp[P,M]) (by simp only[all_cons,FP];rfl) c,λh=>now h s9,λ_=>⟨_,_,_,_,rr,hq⟩,nq s9⟩⟩
 .obtain⟨w,R,F⟩:=eY ([.non,.str l]:LD) id (ρ:=E none none) (fl:=fA eE (ao (fC .non) (ao (bF 4 0) aw))) (fx:=f2 gL (ak 3) (fI 1440)) (b:=true) (a:=c / 1440) (m:=2) (a5 [.non,.str l] (aP rr (aP (y rr) rr)) (bR _ H9)) (uz rr I9 I9) I9 H9;have R:w=.non\/w=.str l:=by grind
  exact⟨_,ah rr (W (aq ((M "leave").trans s9) (aR ((M "paper").trans s9) (am (a5 [.str "paper",.int day,.str p,.int m,dY x,w,.tup [.str o,.str r]] (aP rr (aP rr (aP rr (aP rr (aP rr (aP F (aP (a5 [.str o,.str r] (aP (z rr) (aP (Q rr) rr)) (bc _ H9)) rr))))))) (bc _ H9)))))),by
   have M:=Ua (ps:=[o,r]) H9 H9 λz c=>by
    rcases vP c with rfl|c
    .exact z7.nm _ L
    .cases uT c;exact z7.nm _ N
   refine⟨.paper "paper" (.inl rr) _ _ m (CY m S) x _ (by rcases R with rfl|rfl<;>rfl) (by rcases R with rfl|rfl<;>rfl),λh d=>?_,λh _=>⟨x,w,_,_,_,_,m,_,.inl rr,rr,R.imp id λe=>⟨_,e⟩⟩,Uc s9,λh=>.paper h _ [o,r] rr H9⟩
   rcases R with rfl|rfl
   .exact QQ ["day","by","matters","stretch","whom","pieces"] [p] cc rr (aF (ki ⟨day,hd⟩) (aF (u5 (z7.nm _ P)) (aF (yG m S) (aF (yH ⟨day,hd⟩ x hx) (aF Mm (aF M rr)))))) q9 (by simpa using P) (by simp only[all_cons,FP];rfl) d
   .exact QQ ["day","by","matters","stretch","whom","pieces"] [p,l] cc rr (aF (ki ⟨day,hd⟩) (aF (u5 (z7.nm _ P)) (aF (yG m S) (aF (yH ⟨day,hd⟩ x hx) (aF (Xm (z7.nm _ J)) (aF M rr)))))) q9 (by simp[P,J]) (by simp only[all_cons,FP];rfl) d⟩
 .have G:=mod_lt (x:=c / 1440) (m:=3) I9;obtain⟨j,hj⟩:∃j:Nat,c / 1440 % 3=j:=⟨(c / 1440 % 3).toNat,N9⟩;exact⟨_,ah rr (W (aq ((M "leave").trans s9) (aq ((M "paper").trans s9) (aR ((M "like").trans s9) (dz (.tup [.tup [.int j,.str O]]) (a5 [.tup [.int j,.str O]] (aP (a5 [.int j,.str O] (aP (hj ▸ im (uz rr I9 I9) I9) (aP (A rr) rr)) (bc _ H9)) rr) (bc _ H9)) rr (am (a5 [.str "like",.int day,.str p,.int m,dY x,.non,.int v,.tup [.tup [.int j,.str O]]] (aP rr (aP rr (aP rr (aP rr (aP rr (aP rr (aP (i _ _) (aP rr rr)))))))) (bc _ H9)))))))),⟨.paper _ (.inr rr) _ _ m (CY m S) x _ rr rr,λh r=>QQ ["day","by","matters","stretch","whom","of","changes"] [p] cc rr (aF (ki ⟨day,hd⟩) (aF (u5 (z7.nm _ P)) (aF (yG m S) (aF (yH ⟨day,hd⟩ x hx) (aF Mm (aF (QP ⟨v,e⟩) (aF (Ub N9 (z7.nm _ Y)) rr))))))) q9 (by simpa using P) (by simp only[all_cons,FP];rfl) r,λh _=>⟨x,.non,_,_,_,_,m,_,.inr rr,rr,.inl rr⟩,Uc s9,λh=>.like h _ v j O rr rr⟩⟩
 .exact⟨_,ah rr (W (aq ((M "leave").trans s9) (aq ((M "paper").trans s9) (aq ((M "like").trans s9) (am (a5 [.str "copy",.int day,.str p,.int n] (aP rr (aP rr (aP rr (aP (Z _ _) rr)))) (bc _ H9))))))),Mn z7 hd P X "copy" (.inl rr)⟩
 .exact⟨_,ah rr (W (aq ((M "leave").trans s9) (aq ((M "paper").trans s9) (aq ((M "like").trans s9) (am (a5 [.str "call",.int day,.str p,.int n] (aP rr (aP rr (aP rr (aP (Z _ _) rr)))) (bc _ H9))))))),Mn z7 hd P X "call" (.inr rr)⟩
end
noncomputable def Mp:LS:=[("leave" : Str),"leave","leave","paper","paper","paper","copy","copy","like","call","call","chosen"]
noncomputable def W8:LS:=[("heir" : Str),"death","lost","found","named","leave","paper","leave"]
def le5:∀f∈([0,0,0,1,5]:LN),f<=5:=I9
def w20:∀w∈Mp++W8,w∈mB\/w = "chosen" \/ w = "heir" \/ w = "named" \/ (w = "death" \/ w = "lost" \/ w = "found"):=s9
def rL:∀w∈[("chosen" : Str),"heir","named","death","lost","found"],w∉mB:=s9
def Rg (c:LS)(k:Nat)(r:D):Prop:=∃(h:Int)(a:Str)(aj:LD)(b:Nat),r=row h a aj/\(b:Int)<=h/\h<=100/\(b:Int)<=9998/\Dw c k b a aj
section
variable {zs:LS}(z7:Nm7 zs) {ae:LD}(g:ZI zs ae) (hl:ae.length<=23) (k:Nat) (c:Int)
include z7 g hl
theorem Ug:∃r,yu [.lst ae,.int c,.lst (zs.map .str)]=some (r,false)/\Rg zs k r/\aH r=false:=by
 obtain⟨w,R,B⟩:=eY (Mp++W8) D.str (ρ:=[sL ae,sI c,sL (zs.map .str),lT ((Mp++W8).map .str),none,none,none,none,none]) (fl:=ak 3) (fx:=ak 1) (b:=false) (a:=c) (m:=20) rr rr I9 I9;have R:=w20 w (mem_of_mem_take R);have J:=mod_lt (x:=c / 20) (m:=3) I9;obtain⟨K,C⟩:∃d:Nat,(ae.length:Int) / 2+c / 20 % 3=d:=⟨((ae.length:Int) / 2+c / 20 % 3).toNat,N9⟩;have X:K<16:=N9
 have ed:f2 jD (f2 gL (fA nM (fV 0 aw)) (fI 2)) (f2 kG (f2 gL (ak 1) (fI 20)) (fI 3)) [sL ae,sI c,sL (zs.map .str),lT ((Mp++W8).map .str),sS w,none,none,none,none]=sI K:=
  C ▸ aL (.int ((ae.length:Int) / 2)) (.int (c / 20 % 3)) (uz (a5 [.lst ae] rr jL) I9 I9) (im (uz rr I9 I9) I9) rr
 obtain⟨l,f,F⟩:=eY ([0,0,0,1,5]:LN) (λm=>.int (m:Int)) (ρ:=[sL ae,sI c,sL (zs.map .str),lT ((Mp++W8).map .str),sS w,sI K,none,none,none]) (fl:=fA eE (ao (fI 0) (ao (fI 0) (ao (fI 0) (ao (fI 1) (ao (fI 5) aw)))))) (fx:=f2 gL (ak 1) (fI 60)) (b:=true) (a:=c / 60) (m:=5) (a5 [.int 0,.int 0,.int 0,.int 1,.int 5] rr (bR _ H9)) (uz rr I9 I9) I9 I9;have f:=le5 l (mem_of_mem_take f);let E:OB->DL.Env:=λa=>[sL ae,sI c,sL (zs.map .str),lT ((Mp++W8).map .str),sS w,sI K,sI ((K:Int)+l),sI (c / 300),a];have Z:∀ {T:FS}{d:D},T (E none)=some (.rt d false)->ce (dq 3 (fA eE (ao (fS "leave") (ao (fS "leave") (ao (fS "leave") (ao (fS "paper") (ao (fS "paper") (ao (fS "paper") (ao (fS "copy") (ao (fS "copy") (ao (fS "like") (ao (fS "call") (ao (fS "call") (ao (fS "chosen") aw))))))))))))))
   (ce (dq 3 (f2 jD (ak 3) (fA eE (ao (fS "heir") (ao (fS "death") (ao (fS "lost") (ao (fS "found") (ao (fS "named") (ao (fS "leave") (ao (fS "paper") (ao (fS "leave") aw))))))))))) (ce (dq 4 _) (ce (dq 5 _) (ce (dq 6 (f2 jD (ak 5) _)) (ce (dq 7 (f2 gL (ak 1) (fI 300))) T))))) [sL ae,sI c,sL (zs.map .str),none,none,none,none,none,none]=some (.rt d false):=λG=>
  bo (ds:=Mp.map .str) (a5 (Mp.map .str) rr (bR _ (by simp[Mp]))) rr (bo (ds:=(Mp++W8).map .str) (fH (x:=.lst (Mp.map .str)) (y:=.lst (W8.map .str)) (b1:=false) (b2:=true) rr (a5 (W8.map .str) rr (bR _ (by simp[W8]))) rr) rr
   (dz (.str w) B rr (dz (.int K) ed rr (dz (.int ((K:Int)+l)) (aL (.int K) (.int l) rr F rr) rr (dz (.int (c / 300)) (uz rr I9 I9) rr G)))))
 have M:∀ {P:Str}{aj:LD},Dw zs k K P aj->decide (P = "root")=false->∃r,r=row ((K:Int)+l) P aj/\Rg zs k r/\aH r=false:=λ{P aj} d j=>⟨_,rr,⟨_,P,aj,K,rr,N9,N9,N9,d⟩,j⟩;have S:aY (f2 Bz (ak 4) (fA cS (ao (fS "leave") (ao (fS "paper") (ao (fS "like") (ao (fS "copy") (ao (fS "call") aw))))))) (E none)=some (decide (w∈mB)):=bC (aL (.str w) (.tup (mB.map .str)) rr (a5 (mB.map .str) rr (bc _ (by simp[mB]))) (eK w mB));have O:∀v,aY (f2 dL (ak 4) (fS v)) (E none)=some (decide (w=v)):=λv=>bC (aL (.str w) (.str v) rr rr (yB _ _));refine cX λ_ g'=>?_;obtain⟨q,Q,L⟩:=eY zs D.str (ρ:=E none) (fl:=ak 2) (fx:=f2 gL (ak 7) (fI 40)) (b:=false) (a:=c / 300 / 40) (m:=5) rr (uz rr I9 I9) I9 (by rw[z7.len];decide);have U:q∈zs:=mem_of_mem_take Q;obtain⟨h,Y,u⟩:=pq z7 5 I9;obtain⟨p,n,z⟩:=Bt z7 g N9 (c / 300);apply g';have hp:p∈zs:=mem_of_mem_take n;rcases R with R|rfl|rfl|rfl|R
 .obtain⟨aj,es,H⟩:=HM z7 g hl k K X (c / 300) w R;have j:decide (w = "root")=false:=(by decide +kernel:∀w∈mB,decide (w = "root")=false) w R;obtain⟨r,rfl,V,W⟩:=M H j;rw[qV R]at S;exact⟨_,ah rr (Z (aR S (am (a5 [.int ((K:Int)+l),.tup (.str w::aj)] (aP rr (aP (a5 [.lst ae,.str w,.int K,.int (c / 300),.lst (zs.map .str)] rr es) rr)) (bc _ H9))))),V,W⟩
 .obtain⟨s,hs⟩:∃s:Nat,(K:Int)+c / 300 / 200 % 3=s:=⟨((K:Int)+c / 300 / 200 % 3).toNat,N9⟩;have A:K<=s/\s<18:=N9
  obtain⟨r,rfl,V,W⟩:=M (Mo z7 X hp U Y A.1 A.2) s9;rw[yK (s9)]at S;exact⟨_,ah rr (Z (aq S (aR ((O "chosen").trans s9) (dz (.str p) (a5 [.lst ae,.int (c / 300),.lst (zs.map .str)] rr z) rr (am (a5 [.int ((K:Int)+l),.tup [.str "chosen",.int K,.str p,.str h,.str q,.int s]] (aP rr (aP (a5 [.str "chosen",.int K,.str p,.str h,.str q,.int s] (aP rr (aP rr (aP rr (aP (u rr) (aP L (aP (hs ▸ aL (.int K) (.int (c / 300 / 200 % 3)) rr (im (uz rr I9 I9) I9) rr) rr)))))) (bc _ H9)) rr)) (bc _ H9))))))),V,W⟩
 .obtain⟨r,rfl,V,W⟩:=M (⟨.heir _ _ _ _,λb a=>QQ ["day","by","office","person"] [p,q] cc rr (aF (ki ⟨K,X⟩) (aF (u5 (z7.nm _ hp)) (aF (yI (z7.nm _ Y)) (aF (Bp (z7.nm _ U)) rr)))) (by simp[CF,ip1,ZH,ip6,ip8]) (by simp[hp,U]) rr a,λb=>now b s9,Uc s9,nq s9⟩) s9;rw[yK (s9)]at S;exact⟨_,ah rr (Z (aq S (aq ((O "chosen").trans s9) (aR ((O "heir").trans s9) (am (a5 [.int ((K:Int)+l),.tup [.str "heir",.int K,.str p,.str h,.str q]] (aP rr (aP (a5 [.str "heir",.int K,.str p,.str h,.str q] (aP rr (aP rr (aP (a5 [.lst ae,.int (c / 300),.lst (zs.map .str)] rr z) (aP (u rr) (aP L rr))))) (bc _ H9)) rr)) (bc _ H9))))))),V,W⟩
 .obtain⟨o,t,I⟩:∃o∈zs,f2 cI (ak 2) (f2 jD (fI 5) (f2 kG (f2 gL (ak 7) (fI 5)) (fI 2))) (E none)=sS o:=by
   have m2:=mod_lt (x:=c / 300 / 5) (m:=2) I9;obtain⟨o,t,e⟩:=TC (zs:=zs) (i:=5+c / 300 / 5 % 2) N9 (by rw[z7.len];lia);exact⟨o,t,aL (.lst (zs.map .str)) (.int (5+c / 300 / 5 % 2)) rr (aL (.int 5) (.int (c / 300 / 5 % 2)) rr (im (uz rr I9 I9) I9) rr) e⟩
  obtain⟨r,rfl,V,W⟩:=M (FQ z7 X U Q t) s9;rw[yK (s9)]at S;exact⟨_,ah rr (Z (aq S (aq ((O "chosen").trans s9) (aq ((O "heir").trans s9) (aR ((O "named").trans s9) (am (a5 [.int ((K:Int)+l),.tup [.str "named",.int K,.str o,.str q]] (aP rr (aP (a5 [.str "named",.int K,.str o,.str q] (aP rr (aP rr (aP I (aP L rr)))) (bc _ H9)) rr)) (bc _ H9)))))))),V,W⟩
 .have N:∀v∈[("chosen" : Str),"heir","named"],decide (w=v)=false:=by rcases R with rfl|rfl|rfl<;>decide +kernel
  obtain⟨r,rfl,V,W⟩:=M (PQ z7 X U w R) (by rcases R with rfl|rfl|rfl<;>decide +kernel)
  rw[yK (rL w (by grind))]at S;exact⟨_,ah rr (Z (aq S (aq ((O "chosen").trans (by rw[N _ H9])) (aq ((O "heir").trans (by rw[N _ H9])) (aq ((O "named").trans (by rw[N _ H9])) (am (a5 [.int ((K:Int)+l),.tup [.str w,.int K,.str q]] (aP rr (aP (a5 [.str w,.int K,.str q] (aP rr (aP rr (aP L rr))) (bc _ H9)) rr)) (bc _ H9)))))))),V,W⟩
end
structure GR (zs:List Str)(ae:List D):Prop where
 at_:∀(j:Nat) r,ae[j]? = some r->Rg zs j r
 off:(oQ ae).Nodup
 gv:∃r∈ae,j7 r=true
 rt:∃r∈ae,aH r=true/\aO r=0
def GR.snoc {b:LS}{a:LD}(g:GR b a){r:D}(M:Rg b a.length r)(O:(oQ (a++[r])).Nodup):GR b (a++[r]):=by
 refine⟨λj q h=>?_,O,g.gv.imp λq h=>⟨mem_append_left _ h.1,h.2⟩,g.rt.imp λq h=>⟨mem_append_left _ h.1,h.2⟩⟩;by_cases k:j<a.length
 .rw[getElem?_append_left k]at h;exact g.at_ j q h
 .rw[getElem?_append_right N9]at h;obtain⟨o,c⟩:=vV h;have:j=a.length:=by rw[length_singleton]at o;grind
  subst this;simp at c;subst c;exact M
def GR.mem {a:LS}{b:LD}(g:GR a b){r:D}(h:r∈b):∃k,Rg a k r:=by
 obtain⟨j,c⟩:=mem_iff_getElem?.mp h;exact⟨j,g.at_ j r c⟩
def Rg.k{k:Nat}{r:D}(g:Rg b k r):b8 r:=by
 obtain⟨h,a,aj,c,rfl,z,z,z,d⟩:=g;exact⟨h,a,aj,rr,d.dd⟩
def Rg.w{k:Nat}{r:D}(g:Rg b k r):y9 r:=by
 obtain⟨h,a,aj,c,rfl,z,z,z,d⟩:=g;exact d.w h
def GR.flat {b:LS}{a:LD}(g:GR b a):aU a=true:=br λd c=>by
 obtain⟨j,M⟩:=g.mem c;exact M.k.flat
def GR.gvs {b:LS}{c:LD}(g:GR b c):ZI b c:=⟨λr M=>by
 refine cX λz g'=>?_;obtain⟨j,h,a,aj,k,rfl,z,z,z,d⟩:=g.mem M;apply g';exact⟨h,a,aj,rr,d.p⟩,g.gv⟩
def ip4:jk ("rule" : Str)=false:=s9
def RL:LS:=[("open" : Str),"first","last"]
def Xn:∀r∈RL,PV "rule" (.str r)=true:=s9
def QR:∀m∈[7,255,3],PV "matters" (.int ((m:Nat):Int))=true/\m∈MR:=s9
def Mr {a:LS}(M:Nm7 a)k:off a k∈a:=by
 have:(if k=0 then 5 else 6)<a.length:=by rw[M.len];split<;>decide
 simp_all[off]
def u6 {a:LS}(M:Nm7 a)(j:Nat)(c:j<7){b:DL.Env}{i:Nat}(h:b[i]? = some (sL (a.map .str))\/b[i]? = some (lT (a.map .str))):bF i (j:Int) b=sS (a.getD j ""):=by
 have k:j<a.length:=by rw[M.len];exact c
 have:(a.map D.str)[j]? = some (.str (a.getD j "")):=by simp_all
 rcases h with h|h<;>simp[h,bv this]
def Ms:decide (("named" : Str)∈[("leave" : Str),"named"])=true:=s9
def QS (h:Int)(l:LD):aH (row h "root" l)=true:=qV rr
def Xo (h:Int)(l:LD):aH (row h "named" l)=false:=q9
def Mt {a:LS}(M:Nm7 a){k:Nat}(q:k=0\/k=2){m f:Nat}(b:m∈[7,255,3])(r:f<4){c:Str}(O:c∈RL):Dw a k 0 "root" [.str (off a k),.int m,.int f,.str c]:=
 ⟨.root _ _ m (QR m b).2 _,λh z=>⟨⟨["office","matters","further","rule"],[],cc,rr,mh (aF (yI (M.nm _ (Mr M k))) (aF (QR m b).1 (aF (Mk ⟨f,r⟩) (aF (Xn _ O) rr)))),by simp[CF,ip1,ip2,ip3,ip4],I9,H9⟩,H9,λd o=>by
  simp [mem_cons,not_mem_nil,or_false]at o;rcases o with rfl|rfl|rfl|rfl<;>exact⟨rr,rr⟩,.inl ⟨rr,q,_,rr⟩⟩,λh=>now h s9,Uc s9,nq s9⟩
def Xp {a:LS}(M:Nm7 a){m:Nat}(k:m∈[7,255,3]){b:Str}(O:b∈RL){p:Str}(c:p∈a.take 5):GR a [row 0 "root" [.str (off a 0),.int m,.int (3:Nat),.str b],row 0 "named" [.int (0:Nat),.str (off a 0),.str p]]:=by
 refine⟨λj r h=>?_,by simp[oQ,QS,Xo],⟨_,mZ _ (mX ..),Ms⟩,_,mX ..,QS _ _,rr⟩;match j,h with
 |0,h=>cases h;exact⟨0,_,_,0,rr,I9,I9,I9,Mt M (.inl rr) k I9 O⟩
 |1,h=>cases h;exact⟨0,_,_,0,rr,I9,I9,I9,FQ M I9 (mem_of_mem_take c) c (Mr M 0)⟩
def abm {a:LS}(M:Nm7 a){m:Nat}(c:m∈[7,255,3]){b:Str}(O:b∈RL){p:Str}(k:p∈a.take 5):GR a [row 0 "root" [.str (off a 0),.int m,.int (3:Nat),.str b],row 0 "named" [.int (0:Nat),.str (off a 0),.str p],row 1 "root" [.str (off a 2),.int (7:Nat),.int (1:Nat),.str "open"]]:=by
 refine(Xp M c O k).snoc ⟨1,_,_,0,rr,I9,I9,I9,Mt M (.inr rr) I9 I9 s9⟩ ?_;have h:=L5 M;have:oQ ([row 0 "root" [.str (off a 0),.int m,.int (3:Nat),.str b],row 0 "named" [.int (0:Nat),.str (off a 0),.str p]]++[row 1 "root" [.str (off a 2),.int (7:Nat),.int (1:Nat),.str "open"]])=[off a 0,off a 2]:=by
  rfl
 simp_all
def PX {w:LI}(z:To w){q:LS}(U:Nm7 q){o:LD}(g:GR q o)(D:o.length<=23)(M:OB){i:Nat}(P:i<=90):∃r,wJ [sL (w.map .int),M,lT (q.map .str),lT o,sI i]=some (.nx [sL (w.map .int),M,lT (q.map .str),lT (o++[r]),sI i])/\GR q (o++[r]):=by
 obtain⟨c,a⟩:=pj z (3+i) N9;obtain⟨r,F,O,b⟩:=Ug U g.gvs D _ _;have K:(oQ (o++[r])).Nodup:=by rw[Hn,b,if_neg I9,uQ];exact g.off
 refine⟨r,dU rr (a5 _ (aP rr (aP (aL _ _ (a5 _ (aP rr (aP (aL _ _ rr rr rr) rr)) a) (aL _ _ rr rr rr) (HK _ I9)) (aP rr rr))) F) O.k.flat (be N9),g.snoc O K⟩
def PY {P:LI}(G:P.length<=63)(I:To P):∃K V,tI [.lst (P.map .int)]=lT V/\Nm7 K/\GR K V/\V.length<=23:=by
 obtain⟨c,z⟩:=pj I 1 I9;obtain⟨y,l⟩:=pj I 0 I9;obtain⟨K,A,M⟩:=Mj y;obtain⟨m,X,B⟩:=eY ([7,255,3]:LN) (λm=>.int (m:Int)) (ρ:=[sL (P.map .int),sI c,lT (K.map .str),none,none]) (fl:=fA eE (ao (fI 7) (ao (fI 255) (ao (fI 3) aw)))) (fx:=ak 1) (b:=true) (a:=c) (m:=3) (a5 [.int 7,.int 255,.int 3] rr (bR _ H9)) rr I9 I9;obtain⟨J,f,Y⟩:=eY RL D.str (ρ:=[sL (P.map .int),sI c,lT (K.map .str),none,none]) (fl:=fA eE (ao (fS "open") (ao (fS "first") (ao (fS "last") aw)))) (fx:=f2 gL (ak 1) (fI 3)) (b:=true) (a:=c / 3) (m:=3) (a5 (RL.map .str) rr (bR _ (by simp[RL]))) (uz rr I9 I9) I9 I9;have X:=mem_of_mem_take X;have f:=mem_of_mem_take f;have L:K.getD 0 "" ∈ K.take 5:=by
  have h0:0<K.length:=by rw[M.len];decide
  rw[vF,vU h0];exact List.mem_take_iff_getElem.mpr ⟨0,by rw[M.len];decide,rr⟩
 have U:∀S:DL.Env,S[2]? = some (lT (K.map .str))->bF 2 5 S=sS (off K 0):=λS h=>u6 M 5 I9 (.inr h);have o:∀S:DL.Env,S[2]? = some (lT (K.map .str))->bF 2 6 S=sS (off K 2):=λS h=>u6 M 6 I9 (.inr h);have p:∀S:DL.Env,S[2]? = some (lT (K.map .str))->bF 2 0 S=sS (K.getD 0 ""):=λS h=>u6 M 0 I9 (.inr h);obtain⟨R,Z⟩:∃R,R=row 0 "root" [.str (off K 0),.int m,.int (3:Nat),.str J]:=⟨_,rr⟩;obtain⟨N,k⟩:∃N,N=row 0 "named" [.int (0:Nat),.str (off K 0),.str (K.getD 0 "")]:=⟨_,rr⟩;have C:bi R=true:=by subst Z;rfl
 have E:bi N=true:=by subst k;rfl
 obtain⟨V,F,H,e2⟩:∃V,GR K V/\V.length<=3/\∀ {T:FS}{W:Option Res},T [sL (P.map .int),sI c,lT (K.map .str),lT V,none]=W ->
   ce (yN (aY (f2 dL (f2 kG (f2 gL (ak 1) (fI 9)) (fI 2)) (fI 1))) (rX 3 (fA cS (ao (fI 1) (ao (fA cS (ao (fS "root") (ao (bF 2 6) (ao (fI 7) (ao (fI 1) (ao (fS "open") aw)))))) aw)))) mv) T [sL (P.map .int),sI c,lT (K.map .str),lT [R,N],none]=W:=by
  have t:aY (f2 dL (f2 kG (f2 gL (ak 1) (fI 9)) (fI 2)) (fI 1)) [sL (P.map .int),sI c,lT (K.map .str),lT [R,N],none]=some (decide (c / 9 % 2=1)):=bC (aL (.int (c / 9 % 2)) (.int 1) (im (uz rr I9 I9) I9) rr H9);by_cases h:c / 9 % 2=1
  .rw[qV h]at t;refine⟨[R,N,row 1 "root" [.str (off K 2),.int (7:Nat),.int (1:Nat),.str "open"]],by subst Z;subst k;exact abm M X f L,H9,λs=>aJ (cV t (dU (d:=row 1 "root" [.str (off K 2),.int (7:Nat),.int (1:Nat),.str "open"]) (b:=false) rr (a5 [.int 1,.tup [.str "root",.str (off K 2),.int 7,.int 1,.str "open"]] (aP rr (aP (a5 [.str "root",.str (off K 2),.int 7,.int 1,.str "open"] (aP rr (aP (o _ rr) rr)) (bc _ H9)) rr)) (bc _ H9)) rr (be H9))) s⟩
  .rw[yK h]at t;exact⟨[R,N],by subst Z;subst k;exact Xp M X f L,H9,λs=>aJ (bP t rr) s⟩
 obtain⟨n,hn,en⟩:∃n:Nat,n<=20/\f2 cI _ (f2 kG (f2 gL (ak 1) (fI 18)) (fI 2)) [sL (P.map .int),sI c,lT (K.map .str),lT V,none]=sI n:=by
  obtain⟨q,Q⟩:∃q:Nat,(if 5+(P.length:Int) / 3<20 then 5+(P.length:Int) / 3 else 20)=q:=⟨(if 5+(P.length:Int) / 3<20 then 5+(P.length:Int) / 3 else 20).toNat,by split<;>lia⟩
  have u:q<=20:=by split at Q<;>lia
  obtain⟨x,hx,ex⟩:=eY ([q,20]:LN) (λm=>.int (m:Int)) (ρ:=[sL (P.map .int),sI c,lT (K.map .str),lT V,none]) (fl:=fA eE (ao (fA Wo (ao (fI 20) (ao (f2 jD (fI 5) (f2 gL (fA nM (fV 0 aw)) (fI 3))) aw))) (ao (fI 20) aw))) (fx:=f2 gL (ak 1) (fI 18)) (b:=true) (a:=c / 18) (m:=2)
   (a5 [.int q,.int 20] (aP (a5 [.int 20,.int (5+(P.length:Int) / 3)] (aP rr (aP (aL (.int 5) (.int ((P.length:Int) / 3)) rr (uz (a5 [.lst (P.map .int)] rr (by rw[jL,vI])) I9 I9) rr) rr)) (by rw[<-Q];rfl)) rr) (bR _ H9)) (uz rr I9 I9) I9 H9
  have hx:=mem_of_mem_take hx;refine⟨x,?_,ex⟩;rcases vP hx with rfl|hx
  .exact u
  .grind
 obtain⟨ρ',e,O,v,rfl,w,hs⟩:=o3 (tg:=eA 4) (g:=wJ) n (λi S=>∃(O:LD)(v:OB),S=[sL (P.map .int),sI c,lT (K.map .str),lT O,v]/\GR K O/\O.length<=3+i)
  [sL (P.map .int),sI c,lT (K.map .str),lT V,none] ⟨V,none,rr,F,N9⟩ (by
   rintro i S hi ⟨O,v,rfl,w,hs⟩;obtain⟨r,e,g'⟩:=PX I M w N9 (sI c) (i:=i) N9;exact⟨_,_,rr,.inl e,O++[r],_,rr,g',by rw[uZ,length_singleton];lia⟩)
 refine⟨K,O,ah rr (dz (.int c) (a5 [.lst (P.map .int),.int 1] rr z) rr (bo (ds:=K.map .str) (a5 [.int y] (aP (a5 [.lst (P.map .int),.int 0] rr l) rr) A) (cw _) (bo (ds:=[R]) ?_ (by simp[C]) (aJ (dU (ds:=[R]) (d:=N) (b:=false) rr ?_ E (be H9)) (e2 (aJ (kU (gX (j:=n) (b:=false) en N9) e) (gy rr))))))),M,w,N9⟩
 .refine a5 [R] (aP (a5 [.int 0,.tup [.str "root",.str (off K 0),.int m,.int 3,.str J]] (aP rr (aP (a5 [.str "root",.str (off K 0),.int m,.int 3,.str J] (aP rr (aP (U _ rr) (aP B (aP rr (aP Y rr))))) (bc _ H9)) rr)) ((bc _ H9).trans (by subst Z;rfl))) rr) (bR _ H9)
 .exact a5 [.int 0,.tup [.str "named",.int 0,.str (off K 0),.str (K.getD 0 "")]] (aP rr (aP (a5 [.str "named",.int 0,.str (off K 0),.str (K.getD 0 "")] (aP rr (aP rr (aP (U _ rr) (aP (p _ rr) rr)))) (bc _ H9)) rr)) ((bc _ H9).trans (by subst k;rfl))
def Rg.q {b:LS}{k:Nat}{r:D}(g:Rg b k r):Rq r:=by
 obtain⟨h,a,aj,c,rfl,_,_,_,d⟩:=g;exact d.q h
def FR {d:D}(h:aT 40 d=true):lD d d=sO false:=by unfold lD;rw[if_pos ⟨h,h⟩,tK 40 d h];rfl
def Mu {a:Int}{n k:Nat}{d:D}(h:(fE a n)[k]? = some d):d=.int (a+k)/\k<n:=by
 unfold fE at h;rw[vA]at h;obtain⟨i,o,rfl⟩:=oY h;obtain⟨b,c⟩:=vV o;simp at b c;exact⟨by rw[<-c],b⟩
section
variable {zs:LS}{ae:LD}(g:GR zs ae) (hl:ae.length<=24)
include g hl
theorem Uh (M:Nm7 zs)(d:D)(c:d=.lst ae\/d=.tup ae):gz [d]=some (.tup ae,false):=by
 refine Be ⟨⟨N9,M⟩,λj r h=>?_⟩ g.flat d c;obtain⟨a,b,aj,k,rfl,o,q,O,d⟩:=g.at_ j r h;exact⟨a,b,aj,rr,N9,N9,d.g _ o⟩
theorem PZ {P:LI}(V:To P){i:Nat}(hi:i<6)(a b c d:OB):∃o X t Z,KW [sL (P.map .int),lT ae,sT ae,sI i,a,b,c,d]=some (.nx [sL (P.map .int),lT ae,sT ae,sI i,o,X,t,Z]):=by
 obtain⟨U,u⟩:=pj V 24 I9;obtain⟨c2,G⟩:=pj V (25+i) N9;have m1:=mod_lt (x:=U) (m:=14) I9;obtain⟨K,H,v⟩:∃K:Int,0<=K/\f2 cI (fA eE (ao (fI 9999) (ao (f2 kG (fA oA (fV 0 (ao (fI 24) aw))) (fI 14)) aw))) (f2 gL (ak 3) (fI 3)) [sL (P.map .int),lT ae,sT ae,sI i,a,b,c,d]=sI K:=by
  obtain⟨j,I⟩:∃j:Nat,(i:Int) / 3=j:=⟨i / 3,N9⟩;have e:j<2:=N9
  refine⟨if j=0 then 9999 else U % 14,by split<;>lia,fH (b1:=true) (b2:=false) (a5 [.int 9999,.int (U % 14)] (aP rr (aP (im (a5 _ rr u) I9) rr)) (bR _ H9)) (I ▸ uz rr I9 I9) ?_⟩
  match j,e with
  |0,_=>simp[B3]
  |1,_=>simp[KY]
 have f:∀r∈ae,b8 r/\y9 r/\Rq r:=λr O=>by obtain⟨j,q⟩:=g.mem O;exact⟨q.k,q.w,q.q⟩
 have R:=λr O=>(f r O).1;have W:=λr O=>(f r O).2.1;have M:ae.length<=30:=N9
 have S:((aE (af ae K)).map (ai 0)).Nodup:=List.Nodup.sublist (L4 _ _) g.off;have J:aE (af ae K)≠[]:=by
  obtain⟨r,L,N,Q⟩:=g.rt;rw[oZ];exact List.ne_nil_of_mem (mem_filter.mpr ⟨L,by rw[N,Q,qV H];rfl⟩)
 have l:(bp (af ae K)).length<=60:=by
  unfold bp;rw[(aA _ _).length_eq];exact vR (vM _ _) (vR (b9 _ _) N9)
 let F:Int:=c2 % 16;have Y:=qK R M K S l F;have y:=HI R M K S J F;have z:=HJ f M S l F;have ev:=CU R W M K F;have C:(kq ae K F).length<=60:=by
  refine vR (vM _ _) (vR (vM _ _) ?_);unfold iD;rw[(aA _ _).length_eq];exact gp M _ _
 let T:=ja (ft ae K F);let E:OB->OB->DL.Env:=λc d=>[sL (P.map .int),lT ae,sT ae,sI i,sI K,sI F,c,d];have A:gB (cY (fA o9 (fV 2 (fV 4 (fV 5 aw))))) 1 [] (eA 0) se (Dz (ak 0) kI (iL (fI 2))) (E (lT T) (lT T))=lT ((kq ae K F).map (CT ae)):=gP (kq ae K F) (λ(n:Nat)=>.tup [.int (n:Int),PH ae n,ZG ae K n]) (CT ae) (by show(fA _ _ _).bind _=_;rw[a5 [.tup ae,.int K,.int F] rr z];rfl) N9 λn _=>⟨_,rr,false,rr⟩;have pl:aT 40 (.lst ((kq ae K F).map (CT ae)))=true:=by
  show((kq ae K F).map _).all _=true;rw[all_eq_true];intro x hx;obtain⟨n,B,rfl⟩:=vO hx;have:=(FM R W M K B).1;unfold CT;rcases this with h|⟨s,h⟩<;>rw[h]<;>rfl
 refine⟨_,_,_,_,dz (.int K) v rr (dz (.int F) (im (a5 [.lst (P.map .int),.int (25+i:Nat)] (aP rr (aP (aL (.int 25) (.int i) rr rr (by show some (D.int (25+(i:Int)),false)=_;rw[show(25:Int)+i=((25+i:Nat):Int) by lia])) rr)) G) I9) rr (bo (ds:=T) (a5 [.lst ae,.int K,.int F] rr y) (xi _) (bo (ds:=T) (a5 [.tup ae,.int K,.int F] rr Y) (xi _) (aq (b7 (p:=false) (q:=false) (bw (p:=true) (bC (a5 [.lst T,.ty "list"] rr H9))) λ_=>bC (aL (.lst T) (.lst T) rr rr (FR (CA _)))) (bP (ci (b:=false) (fH (b1:=true) (b2:=true) A (a5 [.lst ae,.lst T,.int F] rr ev) (FR pl))) rr)))))⟩
end
def law_true (q:LI)(M:q.length<=63)(r:To q):∃b,F_law [.lst (q.map .int)]=some (.bl true,b):=by
 obtain⟨S,o,z,O,g,V⟩:=PY M r;obtain⟨D,e,f,h,j,k,l,rfl⟩:=gH (tg:=eA 3) (g:=KW) (λ_ w=>∃a b c d e,w=[sL (q.map .int),lT o,sT o,a,b,c,d,e]) (fE 0 6) [sL (q.map .int),lT o,sT o,none,none,none,none,none] ⟨_,_,_,_,_,rr⟩ (by
  rintro i d w F ⟨a,b,c,K,e,rfl⟩;obtain⟨rfl,P⟩:=Mu F;obtain⟨m,W,n,U,R⟩:=PZ g N9 r P b c K e;rw[Int.zero_add];exact⟨_,_,rr,.inl R,_,_,_,_,_,rr⟩)
 exact⟨false,ah rr (bo (a5 _ rr z) g.flat (dz (.tup o) (a5 [.lst o] (aC (b:=true) (a5 [.lst o] rr rr) rr) (Uh g N9 O _ (.inl rr))) (by simp[g.flat]) (aJ (kU (gX rr I9) e) (am rr))))⟩
end Lw
namespace Lw
open PySem PySem.Spec PyProof.Rows L2 DL
noncomputable def dl:List (Str×Nat):=("is_whole",6)::("is_day",7)::("is_stretch",8)::("is_matters",12)::("is_name",22)::("is_rule",24)::("is_piece",23)::("is_pieces",25)::("is_change",26)::("is_changes",27)::("is_part",28)::("is_deed",29)::("word_of",32)::("part_of",33)::("day_of",34)::("is_timely",30)::("is_row",31)::("root_offices",39)::("is_second_root",40)::("parts_in",35)::("people_in",36)::("count_people",41)::("is_refused",42)::("register_of",43)::("heard",44)::("rank",46)::("in_order",48)::("by_office",60)::("roots",49)::("is_known",45)::("tells",52)::("told_of",53)::("lives",54)::("has_seal",55)::("is_sound",56)::("lies_in",9)::("is_alive",58)::("by_since",59)::("chief_of",61)::("holder_by",62)::("is_held_by",63)::("is_first_death",64)::("counts",65)::("new_claim",66)::("ended",67)::("after_choice",68)::("inherited",69)::("after_death",70)::("claims",71)::("is_paper",74)::("is_leave",75)::("is_borne",76)::("covers",13)::("reach_bar",80)::("office_bar",81)::("office_bases",84)::("ends_within",11)::("is_within",10)::("is_ahead",47)::("leave_bar",82)::("leaves_to",83)::("leave_bases",85)::("copy_bases",86)::("bases_by",87)::("may_call",77)::("calls_in",78)::("calls_by",79)::("is_fit",88)::("links",89)::("bears",90)::("stood",91)::("standing",92)::("changed",94)::("put_together",95)::("words",96)::("paper_behind",97)::("holding",98)::("whom_of",99)::("judged",100)::("_law_cell",102)::("_law_names",103)::("_law_giver",104)::("_law_sealed",105)::("_law_row",106)::("_law_rows",107)::("_law_lives",108)::("_law_sound",109)::("_law_held",110)::("_law_ended",111)::("_law_died",112)::("_law_claims",113)::("_law_matters",114)::("_law_called",115)::("_law_office_bears",117)::("_law_is_within",116)::("_law_leave_bears",118)::("_law_standing",119)::("_law_judged",120)::("law",121)::[]
structure Tx (w:World)(K:Frag)(mg:Str->Option Value):Prop where
 hX:∃h,K.In h/\h.Ns mainGlobals mg
 d:∀p∈dl,Dy K p.1 (KR p.2)
 cs:∀p∈Hg.cs,KC K mg p.1 p.2
 ds:∀p∈Hg.ds,KD w K mg p.1 p.2
 no:∀x∈Hg.no,mg x=none
 ls:∀x∈Hg.ls,zZ K x
section
variable {w:World}{K:Frag}{mg:SV}
def tqdC {a i l}(h:Dy K a (KR i))(t:∀p∈l,Dy K p.1 (KR p.2)):∀p∈(a,i)::l,Dy K p.1 (KR p.2):=forall_mem_cons.mpr ⟨h,t⟩
def tqcC {a i l}(h:KC K mg a i)(t:∀p∈l,KC K mg p.1 p.2):∀p∈(a,i)::l,KC K mg p.1 p.2:=forall_mem_cons.mpr ⟨h,t⟩
def tqkC {a i}(h:KD w K mg a i):∀p∈[(a,i)],KD w K mg p.1 p.2:=forall_mem_cons.mpr ⟨h,nofun⟩
def tqnC {a:Str}{l}(h:mg a=none)(t:∀p∈l,mg p=none):∀p∈a::l,mg p=none:=forall_mem_cons.mpr ⟨h,t⟩
def tqlC {a:Str}{l}(h:zZ K a)(t:∀p∈l,zZ K p):∀p∈a::l,zZ K p:=forall_mem_cons.mpr ⟨h,t⟩
variable (T:Tx w K mg)
include T
theorem Tx.a (i:Nat)(h:i<dl.length:=by decide):Dy K (dl.getD i ("",0)).1 (KR (dl.getD i ("",0)).2):=T.d _ (by rw[vF,vU h];exact getElem_mem h)
theorem abn:a7 w K mg Hg:=⟨T.hX,nofun,T.cs,T.ds,T.no,T.ls⟩
theorem abo:a7 w K mg (OG.gt mM):=OG.o (T.a 0) (abn T) 3
theorem abp:a7 w K mg (OH.gt tE):=OH.o (T.a 1) (abo T) 1
theorem abq:a7 w K mg (OJ.gt o5):=OJ.o (T.a 2) (abp T) 1
theorem abr:a7 w K mg (OK.gt o6):=OK.o (T.a 3) (abq T) 1
theorem abt:a7 w K mg (OL.gt lQ):=OL.o (T.a 4) (abr T) 1
theorem abu:a7 w K mg (OM.gt wH):=OM.o (T.a 5) (abt T) 1
theorem abv:a7 w K mg (ON.gt mN):=ON.o (T.a 6) (abu T) 1
theorem abw:a7 w K mg (OO.gt iQ):=OO.o (T.a 7) (abv T) 1
theorem abx:a7 w K mg (OP.gt iR):=OP.o (T.a 8) (abw T) 1
theorem aby:a7 w K mg (OQ.gt jN):=OQ.o (T.a 9) (abx T) 1
theorem Xq:a7 w K mg (Eb.gt dM):=Eb.o (T.a 10) (aby T) 2
theorem Xr:a7 w K mg (Ec.gt pQ):=Ec.o (T.a 11) (Xq T) 1
theorem Xs:a7 w K mg (Ed.gt bq):=Ed.o (T.a 12) (Xr T) 1
theorem Xt:a7 w K mg (Ee.gt ay):=Ee.o (T.a 13) (Xs T) 2
theorem Xu:a7 w K mg (Ef.gt bD):=Ef.o (T.a 14) (Xt T) 1
theorem Xv:a7 w K mg (Eg.gt kY):=Eg.o (T.a 15) (Xu T) 1
theorem Xw:a7 w K mg (Eh.gt tF):=Eh.o (T.a 16) (Xv T) 1
theorem Xx:a7 w K mg (Ei.gt hW):=Ei.o (T.a 17) (Xw T) 1
theorem Xy:a7 w K mg (Ej.gt gd):=Ej.o (T.a 18) (Xx T) 2
theorem Xz:a7 w K mg (Ek.gt hZ):=Ek.o (T.a 19) (Xy T) 1
theorem X0:a7 w K mg (El.gt iS):=El.o (T.a 20) (Xz T) 1
theorem X1:a7 w K mg (Al.gt ib):=Al.o (T.a 21) (X0 T) 1
theorem X2:a7 w K mg (Em.gt jO):=Em.o (T.a 22) (X1 T) 2
theorem X3:a7 w K mg (Am.gt gz):=Am.o (T.a 23) (X2 T) 1
theorem X4:a7 w K mg (En.gt fJ):=En.o (T.a 24) (X3 T) 2
theorem X5:a7 w K mg (Eo.gt ie):=Eo.o (T.a 25) (X4 T) 2
theorem X6:a7 w K mg (Ep.gt fj):=Ep.o (T.a 26) (X5 T) 2
theorem X7:a7 w K mg (Er.gt kZ):=Er.o (T.a 27) (X6 T) 1
theorem X8:a7 w K mg (Es.gt iT):=Es.o (T.a 28) (X7 T) 2
theorem X9:a7 w K mg (Et.gt de):=Et.o (T.a 29) (X8 T) 3
theorem XA:a7 w K mg (Eu.gt rg):=Eu.o (T.a 30) (X9 T) 4
theorem XB:a7 w K mg (Ev.gt lR):=Ev.o (T.a 31) (XA T) 5
theorem XC:a7 w K mg (Ew.gt rh):=Ew.o (T.a 32) (XB T) 4
theorem XD:a7 w K mg (Ex.gt mO):=Ex.o (T.a 33) (XC T) 4
theorem XE:a7 w K mg (Ey.gt jP):=Ey.o (T.a 34) (XD T) 3
theorem XF:a7 w K mg (Ez.gt lS):=Ez.o (T.a 35) (XE T) 2
theorem XG:a7 w K mg (E1.gt fm):=E1.o (T.a 36) (XF T) 2
theorem XH:a7 w K mg (E2.gt ig):=E2.o (T.a 37) (XG T) 1
theorem XI:a7 w K mg (E3.gt mP):=E3.o (T.a 38) (XH T) 2
theorem XJ:a7 w K mg (E4.gt lb):=E4.o (T.a 39) (XI T) 3
theorem XM:a7 w K mg (E5.gt dN):=E5.o (T.a 40) (XJ T) 4
theorem XN:a7 w K mg (E6.gt ge):=E6.o (T.a 41) (XM T) 3
theorem XO:a7 w K mg (E7.gt o7):=E7.o (T.a 42) (XN T) 4
theorem XQ:a7 w K mg (E8.gt iU):=E8.o (T.a 43) (XO T) 3
theorem XR:a7 w K mg (An.gt yq):=An.o (T.a 44) (XQ T) 4
theorem XS:a7 w K mg (E9.gt ij):=E9.o (T.a 45) (XR T) 3
theorem XT:a7 w K mg (Ap.gt lf):=Ap.o (T.a 46) (XS T) 5
theorem XU:a7 w K mg (EA.gt jf):=EA.o (T.a 47) (XT T) 5
theorem XV:a7 w K mg (Aq.gt tH):=Aq.o (T.a 48) (XU T) 2
theorem XW:a7 w K mg (EB.gt cJ):=EB.o (T.a 49) (XV T) 3
theorem XX:a7 w K mg (EC.gt io):=EC.o (T.a 50) (XW T) 3
theorem XY:a7 w K mg (ED.gt gg):=ED.o (T.a 51) (XX T) 3
theorem XZ:a7 w K mg (EE.gt jx):=EE.o (T.a 52) (XY T) 2
theorem Ya:a7 w K mg (EF.gt lg):=EF.o (T.a 53) (XZ T) 2
theorem Yb:a7 w K mg (EG.gt gS):=EG.o (T.a 54) (Ya T) 3
theorem Yc:a7 w K mg (EH.gt iq):=EH.o (T.a 55) (Yb T) 4
theorem Yd:a7 w K mg (EI.gt jg):=EI.o (T.a 56) (Yc T) 2
theorem Ye:a7 w K mg (EJ.gt iV):=EJ.o (T.a 57) (Yd T) 2
theorem Yf:a7 w K mg (EK.gt ir):=EK.o (T.a 58) (Ye T) 3
theorem Yg:a7 w K mg (EL.gt lh):=EL.o (T.a 59) (Yf T) 3
theorem Yh:a7 w K mg (EM.gt li):=EM.o (T.a 60) (Yg T) 3
theorem Yi:a7 w K mg (EN.gt jh):=EN.o (T.a 61) (Yh T) 3
theorem Yj:a7 w K mg (EO.gt jR):=EO.o (T.a 62) (Yi T) 3
theorem Yk:a7 w K mg (EQ.gt fq):=EQ.o (T.a 63) (Yj T) 4
theorem Yl:a7 w K mg (ER.gt mQ):=ER.o (T.a 64) (Yk T) 5
theorem Ym:a7 w K mg (ES.gt jS):=ES.o (T.a 65) (Yl T) 6
theorem Yn:a7 w K mg (ET.gt mR):=ET.o (T.a 66) (Ym T) 5
theorem Yo:a7 w K mg (EU.gt o8):=EU.o (T.a 67) (Yn T) 5
theorem Yp:a7 w K mg (Ar.gt yr):=Ar.o (T.a 68) (Yo T) 3
theorem Yr:a7 w K mg (EV.gt rj):=EV.o (T.a 69) (Yp T) 2
theorem Ys:a7 w K mg (As.gt yt):=As.o (T.a 70) (Yr T) 1
theorem Yt:a7 w K mg (EW.gt iu):=EW.o (T.a 71) (Ys T) 3
theorem Yu:a7 w K mg (EX.gt pT):=EX.o (T.a 72) (Yt T) 3
theorem Yv:a7 w K mg (wI.gt iz):=wI.o (T.a 73) (Yu T) 2
theorem Yw:a7 w K mg (Au.gt rq):=Au.o (T.a 74) (Yv T) 3
theorem Yx:a7 w K mg (Av.gt fK):=Av.o (T.a 75) (Yw T) 2
theorem Yy:a7 w K mg (EY.gt pU):=EY.o (T.a 76) (Yx T) 3
theorem Yz:a7 w K mg (EZ.gt pV):=EZ.o (T.a 77) (Yy T) 2
theorem Y0:a7 w K mg (Fa.gt o9):=Fa.o (T.a 78) (Yz T) 3
theorem Y1:a7 w K mg (Fb.gt oA):=Fb.o (T.a 79) (Y0 T) 2
theorem Y2:a7 w K mg (Aw.gt pW):=Aw.o (T.a 80) (Y1 T) 1
theorem Y3:a7 w K mg (Fc.gt lU):=Fc.o (T.a 81) (Y2 T) 3
theorem Y4:a7 w K mg (Fd.gt mS):=Fd.o (T.a 82) (Y3 T) 5
theorem Y5:a7 w K mg (Fe.gt yu):=Fe.o (T.a 83) (Y4 T) 3
theorem Y6:a7 w K mg (Ax.gt tI):=Ax.o (T.a 84) (Y5 T) 1
theorem Y7:a7 w K mg (Ay.gt lV):=Ay.o (T.a 85) (Y6 T) 4
theorem Y8:a7 w K mg (Az.gt fw):=Az.o (T.a 86) (Y7 T) 4
theorem Y9:a7 w K mg (A0.gt fL):=A0.o (T.a 87) (Y8 T) 4
theorem YA:a7 w K mg (A1.gt lW):=A1.o (T.a 88) (Y9 T) 4
theorem YB:a7 w K mg (A2.gt tJ):=A2.o (T.a 89) (YA T) 6
theorem YC:a7 w K mg (A3.gt mT):=A3.o (T.a 90) (YB T) 4
theorem YD:a7 w K mg (Ff.gt d9):=Ff.o (T.a 91) (YC T) 1
theorem YE:a7 w K mg (wL.gt jT):=wL.o (T.a 92) (YD T) 6
theorem YF:a7 w K mg (A6.gt dO):=A6.o (T.a 93) (YE T) 2
theorem YG:a7 w K mg (Fg.gt ji):=Fg.o (T.a 94) (YF T) 2
theorem YH:a7 w K mg (Fh.gt eW):=Fh.o (T.a 95) (YG T) 2
theorem YI:a7 w K mg (wM.gt jU):=wM.o (T.a 96) (YH T) 3
theorem YJ:a7 w K mg (wN.gt mU):=wN.o (T.a 97) (YI T) 3
theorem head {P:Program}{o:Addr}(M:mg "law" = some (.ref o)):∃q:FuncData,(∀(s:Shared)(u:Value),BindsTo s q ⟨[u],[]⟩ [("_law_script",u)])/\∀c:Heap,K.In c->c.Ns mainGlobals mg->u7 P w K mg c Bw 17 o q ["_law_script"] (M9 K F_law):=by
 have S:FnScope A8.N ["_law_script"] (aM (KR 121)):=by refine⟨rr,rr,rr,?_,rr,?_,?_⟩<;>decide +kernel
 have ⟨h,X,G⟩:=T.hX;have e:F_law=a0 (A8.r.getD sk) 1 7:=x8
 rw[e];exact Dy.law (x:="law") (T.a 98) X G M S (λ_ _ _ _ _ _ u=>rr) λc U b f z A k s H E O=>A8.js s9 (YJ T) S.nd O λh=>absurd h s9
end
end Lw
end
end Lake
open Lake
structure PySem.W.Fast:Prop where(tw9886284906122316898 tw18141729699994025532 tw14829567521909249154 tw1603369341315845073 tw9453555886416807906 tw2419008053495474881 tw3710177953454835887 tw6270241813151600282 tw15432871002749361184 tw13357105796567256923 tw5862430309169805908 tw5114819063935121458 tw6291647170867467958 tw5068239414077438635 tw461540299094865132 tw11368881755460448136 tw9290659401965137320 tw14785975663299012866 tw778918133452588488 tw4142279374288979234 tw3553117167640782353 tw10635368386423011831 tw12802573907100979435 tw17844616060843675691 tw2893270060645908536 tw9149650231850022199 tw5987602873084447014 tw3295381238711128083 tw13564838062752485155 tw15143652066437551279 tw3774520849577381878 tw4146438635055030077 tw14544275516955921022 tw13473358992749666618 tw16859606109289446838 tw3996824095528802852 tw10452803608191530776 tw7082843476031976876 tw10209387926976280364 tw11614164774040895989 tw9035065210479583680 tw5748260817679853303 tw4736450327795344151 tw13184964863617193920 tw4804889062415930209 tw9125303568555336481 tw5167811264010557371 tw14520829327617935650 tw9569221170549692838 tw10060220676281751326 tw15807295080394170802 tw15629612408624201010 tw11928842564005786993 tw2569324590230322968 tw269869512744075687 tw3271134648582127474 tw7005053297646245352 tw9663751103371456684 tw10029670129108356308 tw380563717693365434 tw2565880630521145452 tw14672104882398225308 tw16916328631523551748 tw8870111964580130359 tw14242821059319962583 tw6764161711260650968 tw13393220739220732044 tw3959167602009758644 tw12771745055560465125 tw11833496525617121319 tw10952373075506719191 tw819160375214774417 tw14141245255915053026 tw4862260633912731094 tw1380680085835667720 tw11513935557936290981 tw9278224213581190502 tw5790525605683810471 tw11115454098868589324 tw3583140986807540378 tw18137658566820980254 tw13351930106637853830 tw13974954452409060489 tw16802287665937257964 tw15698950319858339194 tw15335280480558342473 tw991411068353114211 tw5535470521671022173 tw11732344037778366066 tw2218935792149185566 tw16186312435264501364 tw9535876012270981400 tw7333069867249879401 tw12640490387975352752 tw1350499896036051483 tw11871161588784731997 tw1740924942016231330 tw13472572340629137228 tw9973517471382057036 tw3463935842707304192 tw9167542727616501071 tw5814914478109075252 tw8898271229521320338 tw10265589113036199294 tw2590069863107094527 tw12820045780994188446 tw11608393840619384320 tw16719882901378611481 tw6217057666684038021 tw10120896757277386467 tw10118337632022530830 tw528214644998728412 tw6392994801897332314 tw16602579936887801627 tw559168834567738384 tw1659937180249162142 tw4981613461351686690 tw7630931600014472824 tw4553222464746327857 tw8136978052317073463 tw13826757521601750013 tw17470335293754598490 tw854924323799353174 tw3883089833811867835 tw17871484136744173063 tw7540511565950541400 tw5193910600606383631 tw6725590256266366732 tw17152065638831812144 tw15657121593026349565 tw11387381558923193990 tw18153945231418428830 tw14593603409326267343 tw3828526831632886946 tw13455262499022696771 tw3929086471633980476 tw7046346783884945375 tw7775130518404211325 tw2268301540360123258 tw11271854348297441549 tw15222486294490692302 tw11527229872829253273 tw15275506247219491004 tw10076678389392641821 tw1256125242268916925 tw5857899909560422530 tw3941429922068350571 tw1832298943203926359 tw6104500927523924797 tw6826424564427111963 tw1846284881048322599 tw17368354334021747984 tw7090301643791293436 tw9174239454005529634 tw18197924014421967628 tw7458928857539571128 tw15110101391985075288 tw13723340441294794696 tw8842175360388228982 tw1805430451870254271 tw18126273937003713272 tw8614308921932869064 tw12704442858641961820 tw5176963500150859263 tw6770285938644160284 tw14875269681637534912 tw18195275898625769019 tw10644845615928697907 tw5996595856368586226 tw10637823478823021277 tw13911866861653042736 tw12848743830853480547 tw6726471436785583086 tw8696171969063315374 tw5129586956531339793 tw12618179687426098202 tw2875789156095044597 tw15059286178358348596 tw18343985695849884968 tw7475030834544823480 tw3666234400493690576 tw16447496537105649846 tw809719874729213275 tw5477649450155659274 tw15075114734142697209 tw8184941962488949300 tw13758541970444308985 tw1220152170882545600 tw11111190822594334126 tw3985078704271106372 tw16828868030315499012 tw4503930782800315748 tw9503993945504003118 tw16438919640325236241 tw14726617965915335150 tw3550247850215109174 tw1431934813037317128 tw9780569557842959854 tw6086889748463521717 tw6212642504721294929 tw4985273283414136153 tw6925394696441266106 tw1542764239394923356 tw15112403053345766685 tw18159923725567754122 tw651606747672770285 tw5133335474070431179 tw1943077499642016232 tw2401099960129962377 tw1612345092500519375 tw3616591530851172058 tw16224609635801387600 tw15473094762409392306 tw12197540134330447954 tw1882778686178861115 tw14257018164802605235 tw12386909984482012091 tw18177777903720007729 tw10065392205069644268 tw17301736777983847368 tw15929282879961567446 tw4019965637821496448 tw13190339339714200236 tw4572641018161162050 tw11829981216036838272 tw14637597633805452154 tw9902364727969967984 tw7972132159540325502 tw13587579795652374978 tw1644399169532634155 tw14428214895408967179 tw17376680875707486057 tw15375709456508814898 tw13051220892159026757 tw12391022112335069544 tw13673156109407255111 tw314203983759723177 tw14539284492194715498 tw5658788572328334649 tw12525645661213316574 tw7103980349916512378 tw3521664541009805033 tw9126117739530166341 tw8299526712965902805 tw1518913667850277075 tw6951849637189059389 tw10251400504738473065 tw14503727839543346587 tw7487811741338509963 tw11613701205490268523 tw7799397130851266236 tw793150251739551554 tw12709764584338788641 tw4088966943195825767 tw17589091317661623228 tw13398032742139499154 tw325723637066799670 tw14755906900879243583 tw7613621163556683484 tw15137952842347601689 tw15773732911442883089 tw5176429138955555147 tw3428564912647387979 tw4373067800728734382 tw9599075528779364023 tw9439185330399086649 tw17061382041695559373 tw6536503843730086525 tw305166372017437265 tw1512713275577753148 tw5218921482860510657 tw11694694320021995025 tw5596927924988232719 tw8806551410091239465 tw1490224297983021205 tw17361363512229586737 tw976883637545753464 tw6940825690797993733 tw12582468324256378582 tw16609886531377783560 tw6515649530073667127 tw907858968580212032 tw7693946056448848670 tw10873020790467585259 tw7866234561886880431 tw1763822403552600962 tw15713894685244623310 tw13798582698471317527 tw11243024278756341587 tw7588539477012133991 tw5715245015647761372 tw10339673339841509937 tw12224260642619280668 tw18172548764806413733 tw15525527203297287501 tw11746231057037047671 tw17328622727508490857 tw11546202893314370135 tw6668053262302047917 tw5013531725561064806 tw1951785602107469937 tw15894714387190896624 tw14104565377705725633 tw2971265845098056223 tw14467241915108015269 tw8890543672461398741 tw6756209858656316054 tw1551787877630250796 tw14651601854295170744 tw10449088675121459472 tw15913068207719971718 tw8726064228120996251 tw8495753611103967694 tw18291236296702069570 tw2362048376206431906 tw14632571703572708221 tw6689293808679914996 tw28136043673358982 tw16097176068239319216 tw16089338156916428529 tw12169069688159493760 tw2299772735526582785 tw14285866002208518690 tw13492570702771323474 tw946507860918844738 tw8657430515369859183 tw17662850346332868671 tw17235044186685590567 tw15640740436864359572 tw1916922591880281393 tw15163428960533168176 tw13185862937561523866 tw9751432721639072257 tw4947071516567375260 tw238797950529195040 tw1581648639535258256 tw14954331540710449315 tw14535388715320733303 tw13780386725148156711 tw5367886052407923380 tw10288561267153845658 tw3285635585517040606 tw14600516620865783732 tw13648912963133455018 tw12679430623003238200 tw1061507432128374159 tw8347907026611886214 tw7573033329657844511 tw4529766018485407169 tw16636508365269970538 tw15568874915189778389 tw12963340334373364357 tw17651892452012907360 tw14515778075536305369 tw15712905788957572441 tw14611931746886283522 tw8477750541079797368 tw4995878612835678688 tw1817489729761940945 tw15286287131421051976 tw13639895491987615870 tw5621783786995114511 tw4744920282550637430 tw5456674535656664284 tw13448786155637380117 tw12600919921194524803 tw11505745055832827333 tw16643602723130541933 tw4195334317983845600 tw18319419400262006835 tw9785040650857741538 tw7944376273426999710 tw4630065945594810049 tw358111685918176806 tw29153179921250990 tw15655405704757129208 tw3799395177235373818 tw3457822229286817594 tw498357061659260484 tw1070462614633443807 tw1703916505928369347 tw5761737274659172958 tw2665154450964535058 tw16996808674297874627 tw485565770814156146 tw16233541742812775852 tw12228046922749736862 tw17428168215834058194 tw16961059948259382564 tw16206096721991983561 tw13154832596379717576 tw2558368675848704130 tw9462232798191419572 tw11229019934559780241 tw908928581511423730 tw8608384804973822060 tw12277474485630689708 tw11960407684453125961 tw11910898547870570895 tw10268282533213934339 tw16255901856423752427 tw5395444892423489825 tw2738844780262854239 tw12141242515282460647 tw7596302829457341619 tw17513420331682545572 tw7013507715888043353 tw2732933905558600162 tw17011246695319188854 tw8240919208121876131 tw17773155597098003582 tw12512251164533244345 tw9172966129843218046 tw7667189822863361828 tw3226711681366998889 tw3764707828053343953 tw14031197328878465516 tw4510323719139094875 tw16052160865112527390 tw15121244183083993337 tw11739361080155015415 tw11322524610136349956 tw15537058890446238844 tw9037757749202902839 tw1649022363870743385 tw16138617240454201760 tw11236562062322136323 tw9469823004785043284 tw6096470975179553042 tw8913424720679611278 tw6763405096112988621 tw18394221403745926851 tw17975664419013998652 tw14289239846982124870 tw368409313403147724 tw9967051835670374615 tw6964400438423521376 tw4377327442885343188 tw1765114412457983479 tw16328210821633962781 tw14575713487659592332 tw13461971733015940818 tw13310674940642614793 tw11196248023112745509 tw8303936165149392438 tw5477702488437791937 tw18062650613923491283 tw12096369119423985498 tw11890433302987418700 tw575121163990340581 tw289601184833084426 tw7876538461533650154 tw5549149472314616737 tw14583621406868644342 tw11789823414669931725 tw4896224418387610164 tw6479733156778505416 tw9410836279349158868 tw333010681208492574 tw9983728979415092953 tw9831397941690880113 tw9812169221823188891 tw9763475366647527515 tw9643412985026538189 tw9337596236028440306 tw9307731615025786322 tw9181060909698794778 tw9165573207620409485 tw9162532579381664595 tw9092278996172078488 tw9016138815170469630 tw8898951500424982862 tw8807174872032216029 tw8777795369726072888 tw8519153425370804866 tw8420461611497245747 tw8233747944446235820 tw8175528569981216079 tw8038387434593803446 tw8016950622841527508 tw7973897310941222925 tw792041294880939737 tw7705651312265283428 tw7199753307670093348 tw7150501156148239150 tw7059086160828105322 tw6942116967760141047 tw674812030512100078 tw6708594824311802582 tw6702972512183587143 tw6538703079523888318 tw6390995034402960063 tw6388931066961848887 tw6329246641499223159 tw6092969296267384616 tw606632649560374708 tw5722518793963073036 tw5709701177900877744 tw5683646957448044553 tw5485980513656650194 tw5483453587038668332 tw546735431619515746 tw5401981540534987136 tw528127227920575627 tw521300249757255724 tw4989995710261510240 tw4946540143206081329 tw4865457688088817509 tw4754519884587657301 tw4644453306284928643 tw4592698024978522979 tw4509598818985626595 tw4452758983255371145 tw4412451536450911996 tw4346694202376978352 tw4338309992809238973 tw4313088754269388681 tw4286676423860986570 tw4282757197807731912 tw4265351393783046461 tw4202470580350110817 tw4198149504511192963 tw4166426453102010633 tw4133899197733762296 tw4114699474646962639 tw3886056284610405392 tw3867182536162350075 tw3834888120790654314 tw3571281481990660078 tw3374257886094542748 tw3349774157630163766 tw306159653764914348 tw299093375578276285 tw2968726485658838490 tw2932966140868786620 tw2914240470755953375 tw2830227287549904327 tw2776355874420110053 tw2616682425816905846 tw2480153007922714938 tw2328350066311602974 tw2312864792881905957 tw2255668103791484035 tw1935983257711420264 tw18366260346941534152 tw18255092802749281415 tw1813599789509763335 tw18064480774099932218 tw17876649837486950089 tw17872788978868709615 tw17854838068175107262 tw17823138670190394233 tw17798216591708034308 tw177501422229324578 tw17536318096036638929 tw17517717773074961244 tw17484229650276223285 tw1747667441039713148 tw17384303530691306417 tw17360990873033633529 tw17234316803720924112 tw17028772157106074789 tw16887419462180179208 tw16883431986398005004 tw1672113743904492908 tw16645975965911781278 tw16639158445648075195 tw16598160211243090919 tw16557424457770103843 tw16459565561852977204 tw16442749628043585525 tw16425889535190167107 tw16424828838965249871 tw16414637996258823373 tw16404404066344262064 tw16319375870164603303 tw16289196624649374856 tw15989188021282819026 tw15983362441849255507 tw15965184018355918755 tw15567880402119663873 tw15540338908321546245 tw15451653009519867676 tw15443557097304399217 tw15339699753690548345 tw1524373272936646182 tw15238274633122609473 tw15224121072280361304 tw15146768478521707588 tw15053942136975286097 tw14746605752100309615 tw14397954436005921686 tw14304246998412555452 tw14239487302680269800 tw14187310439250599095 tw14186105960542224962 tw14185631865221771345 tw14119655449445288552 tw13605498766473702266 tw13578568288184897724 tw13378599113021605456 tw13259329663801545544 tw13086916462774034897 tw13011485721690448511 tw1292939429667455585 tw12788100201288440181 tw12678139733996652907 tw12616613225324936969 tw12428071852168602453 tw12426960898254159464 tw12425349434323979803 tw1239305606423075876 tw12347913469356740774 tw12250461461865930739 tw12201533996489381787 tw1200392358554015177 tw11962282537373248833 tw1189323394845162557 tw11787418947826110969 tw11715250802682799534 tw1170793003188940261 tw11706349772967262802 tw11648360701359746496 tw11637570147866132573 tw11619583400939807355 tw11610139451364359719 tw11455220881390613936 tw11426284627709000273 tw11120936284164838009 tw11096996259672014954 tw10693447800863511253 tw1042854995986244391 tw1006647436001591284 tw10002827018155650821:True)
open PySem PySem.W PyProof.Rows
set_option maxRecDepth 100000 in
set_option maxHeartbeats 0 in
theorem PySem.Challenge.cw_sealchain_k52_whole_what_stands_holds : PySem.Challenge.rw_sealchain_k52_whole_what_stands.Holds := by
 w_on; o_law; k_head; (case hw => w_witness2)
 k_fill
 refine' DL.walkB (l := PySem.Challenge.rw_sealchain_k52_whole_what_stands) (k := 17) (x := ("_law_script" : PySem.Str)) (f := Lw.F_law) (L := [(("in_order" : PySem.Str), ?t0), (("has_seal" : PySem.Str), ?t1), (("is_first_death" : PySem.Str), ?t2), (("bases_by" : PySem.Str), ?t3), (("as_heard" : PySem.Str), ?t4)]) rfl rfl ⟨rfl, by decide, by decide⟩ (fun w h Y => PySem.W.km_in_of Y) ?T ?D ?F Lw.law_true
 case T =>
  intro w
  refine' DL.tabs_fit ?h0 ?h1 ?h2 ?h3 ?h4 ?ap ?nt
  iterate 4 (refine' DL.tab_yes ?a ?l ?c ?m ?v; (case a => k_is); (case l => k_is); (case c => exact rfl); (case m => k_is); (case v => exact rfl))
  (refine' DL.tab_no ?a; (case a => k_is))
  decide
  kernel_rfl
 case D => kernel_rfl
 case F =>
  intro w mg fa h KX G hmg
  refine' Lw.head ⟨⟨h, KX, G⟩, ?_, ?_, ?_, ?_, ?_⟩ hmg
  iterate 99 (refine' Lw.tqdC (DL.def_mk ?a ?l ?c ?k) ?_; (case a => k_is); (case l => k_is); (case c => k_is); (case k => k_is))
  nofun
  iterate 7 (refine' Lw.tqcC (DL.kc_of KX G (DL.const_int ?e)) ?_; (case e => k_is))
  iterate 4 (refine' Lw.tqcC (DL.kc_of KX G (DL.const_tup ?e ?l ?v)) ?_; (case e => k_is); (case l => k_is); (case v => decide +kernel))
  nofun
  refine' Lw.tqkC (DL.kd_of KX G (DL.const_dict ?e ?l ?r ?s)); (case e => k_is); (case l => k_is)
  (case r => (iterate 12 (refine' DL.CRows.tup rfl ?l ?f ?_; (case l => k_is); (case f => decide +kernel))); exact DL.CRows.nil)
  decide +kernel
  iterate 18 (refine' Lw.tqnC (PySem.W.mg_none_of KX G ?z) ?_; (case z => k_is))
  nofun
  iterate 4 (refine' Lw.tqlC (DL.lam_mk ?a ?l ?c ?m ?v1 ?v2 ?v3 ?v4 ?v5 ?v6 ?v7) ?_; (case a => k_is); (case l => k_is); (case c => exact rfl); (case m => k_is); (case v1 => exact rfl); (case v2 => exact rfl); (case v3 => exact rfl); (case v4 => exact rfl); (case v5 => exact rfl); (case v6 => exact rfl); (case v7 => decide))
  nofun
